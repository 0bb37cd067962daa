/- Slices of versions (three numbers and a slice of ints: four cells each): the call's own (OwnVs), and such as can be read (RdVs). -/
import Derived.Test.YtakickggpfbafaaProg
import Derived.Test.YtakickggpfbafaaWords
import Derived.Test.YtakickggpfbafaaBel
import Derived.Deep.RegionLaw
import Derived.Deep.QuietTactic
import Derived.Deep.RegionHeld3
import Derived.BigQuiet
import Derived.ProofKit
import Derived.Handy
import Derived.Lib.Hide
namespace Go.Proofs.Ytakickggpfbafaa
open Go.RowKit
set_option linter.unusedVariables false
set_option linter.unusedSimpArgs false
theorem info_vs : (Try.prog.info? 33).map (fun i => (i.zero, i.size, i.bytes)) = some (some (.agg #[.int .i64 0, .int .i64 0, .int .i64 0, .slice none 0 0]), 4, 48) := by kernel_rfl
/-- An entry. -/
structure Vs where
  n : Int
  r : Int
  k : Int
  s : Value
def Vs.z : Vs := ⟨0, 0, 0, .slice none 0 0⟩
/-- What a value of the type can be. -/
def Vs.ok (x : Vs) : Prop := (-9223372036854775808 ≤ x.n ∧ x.n ≤ 9223372036854775807) ∧ (-9223372036854775808 ≤ x.r ∧ x.r ≤ 9223372036854775807) ∧ (-9223372036854775808 ≤ x.k ∧ x.k ≤ 9223372036854775807) ∧ ∃ a n c, x.s = .slice a n c
theorem Vs.z_ok : Vs.z.ok := ⟨by decide, by decide, by decide, _, _, _, rfl⟩
def Vs.cs (x : Vs) : List Value := [.int .i64 x.n, .int .i64 x.r, .int .i64 x.k, x.s]
def Vs.v (x : Vs) : Value := .agg #[.int .i64 x.n, .int .i64 x.r, .int .i64 x.k, x.s]
def cellsVs : List Vs → List Value
  | [] => []
  | x :: L => x.cs ++ cellsVs L
theorem cellsVs_len : ∀ L : List Vs, (cellsVs L).length = L.length * 4
  | [] => rfl
  | x :: L => by simp only [cellsVs, List.length_append, cellsVs_len L, List.length_cons, Vs.cs, List.length_nil]; omega
theorem cellsVs_app : ∀ L M : List Vs, cellsVs (L ++ M) = cellsVs L ++ cellsVs M
  | [], M => rfl
  | x :: L, M => by simp only [cellsVs, List.cons_append, cellsVs_app L M, List.append_assoc]
theorem cellsVs_take : ∀ (L : List Vs) (n : Nat), cellsVs (L.take n) = (cellsVs L).take (n * 4)
  | [], n => by simp [cellsVs]
  | x :: L, 0 => by simp [cellsVs]
  | x :: L, n + 1 => by
    rw [List.take_succ_cons, show (n + 1) * 4 = n * 4 + 1 + 1 + 1 + 1 by omega]
    simp only [cellsVs, Vs.cs, List.cons_append, List.nil_append, List.take_succ_cons, cellsVs_take L n]
theorem cellsVs_at : ∀ {L : List Vs} {j : Nat}, j < L.length → (cellsVs L)[j * 4]? = some (.int .i64 (L.getD j Vs.z).n) ∧ (cellsVs L)[j * 4 + 1]? = some (.int .i64 (L.getD j Vs.z).r) ∧ (cellsVs L)[j * 4 + 2]? = some (.int .i64 (L.getD j Vs.z).k) ∧ (cellsVs L)[j * 4 + 3]? = some (L.getD j Vs.z).s
  | [], j, h => by simp at h
  | x :: L, 0, h => ⟨rfl, rfl, rfl, rfl⟩
  | x :: L, j + 1, h => by
    have := cellsVs_at (L := L) (j := j) (by simp at h; omega)
    rw [show (j + 1) * 4 = j * 4 + 1 + 1 + 1 + 1 by omega]
    simp only [cellsVs, Vs.cs, List.cons_append, List.nil_append]
    simp only [List.getD_eq_getElem?_getD, List.getElem?_cons_succ] at this ⊢
    exact this
theorem cellsVs_set : ∀ (L : List Vs) (j : Nat) (x : Vs), cellsVs (L.set j x) = ((((cellsVs L).set (j * 4) (.int .i64 x.n)).set (j * 4 + 1) (.int .i64 x.r)).set (j * 4 + 2) (.int .i64 x.k)).set (j * 4 + 3) x.s
  | [], j, x => by simp [cellsVs]
  | y :: L, 0, x => by simp [cellsVs, Vs.cs]
  | y :: L, j + 1, x => by
    rw [show (j + 1) * 4 = j * 4 + 1 + 1 + 1 + 1 by omega]
    simp only [List.set_cons_succ, cellsVs, Vs.cs, List.cons_append, List.nil_append, cellsVs_set L j x]
def VsOk (L : List Vs) : Prop := ∀ x ∈ L, x.ok
theorem oneCell_vs : ∀ L : List Vs, VsOk L → ∀ v ∈ cellsVs L, v.oneCell' = true
  | [], _, v, h => by simp [cellsVs] at h
  | x :: L, ho, v, h => by
    simp only [cellsVs, List.mem_append] at h
    rcases h with h | h
    · simp only [Vs.cs, List.mem_cons, List.mem_nil_iff, or_false] at h
      rcases h with rfl | rfl | rfl | rfl
      · rfl
      · rfl
      · rfl
      · obtain ⟨_, _, _, e⟩ := (ho x (List.mem_cons_self ..)).2.2.2
        rw [e]
        rfl
    · exact oneCell_vs L (fun y hy => ho y (List.mem_cons_of_mem _ hy)) v h
theorem VsOk.nil : VsOk [] := fun _ h => by cases h
theorem VsOk.app {L M : List Vs} (h : VsOk L) (k : VsOk M) : VsOk (L ++ M) := fun n hn => by
  rcases List.mem_append.1 hn with h' | h'
  · exact h n h'
  · exact k n h'
theorem VsOk.one {x : Vs} (h : x.ok) : VsOk [x] := fun n hn => by
  rw [List.mem_singleton] at hn
  subst hn
  exact h
theorem VsOk.at_ {L : List Vs} (h : VsOk L) (j : Nat) : (L.getD j Vs.z).ok := by
  by_cases hk : j < L.length
  · have := h L[j] (List.getElem_mem hk)
    simpa [List.getD, hk] using this
  · have e : L.getD j Vs.z = Vs.z := by simp [List.getD, List.getElem?_eq_none (Nat.le_of_not_lt hk)]
    rw [e]
    exact Vs.z_ok
theorem VsOk.set {L : List Vs} (h : VsOk L) (j : Nat) {x : Vs} (hx : x.ok) : VsOk (L.set j x) := fun y hy => by
  rcases List.mem_or_eq_of_mem_set hy with h' | rfl
  · exact h y h'
  · exact hx
theorem VsOk.take {L : List Vs} (h : VsOk L) (n : Nat) : VsOk (L.take n) := fun y hy => h y (List.mem_of_mem_take hy)
/-- A slice of entries of the call's own. -/
def OwnVs (B : Nat) (L : List Vs) (v : Value) (w : World) : Prop := VsOk L ∧ w.ownsRow B 33 4 v L.length (cellsVs L)
/-- Four cells that hold an entry. -/
def At4Vs (x : Vs) (b o : Nat) (w : World) : Prop := w.cell? ⟨b, o, none⟩ = some (.int .i64 x.n) ∧ w.cell? ⟨b, o + 1, none⟩ = some (.int .i64 x.r) ∧ w.cell? ⟨b, o + 2, none⟩ = some (.int .i64 x.k) ∧ w.cell? ⟨b, o + 3, none⟩ = some x.s
theorem At4Vs.below {x : Vs} {b o B : Nat} {w w' : World} (h : At4Vs x b o w) (hb : Below B w w') (hlt : b < B) : At4Vs x b o w' :=
  ⟨(hb.cell (p := ⟨b, o, none⟩) hlt).trans h.1, (hb.cell (p := ⟨b, o + 1, none⟩) hlt).trans h.2.1, (hb.cell (p := ⟨b, o + 2, none⟩) hlt).trans h.2.2.1, (hb.cell (p := ⟨b, o + 3, none⟩) hlt).trans h.2.2.2⟩
/-- A slice of entries that can be read. -/
def RdVs (L : List Vs) (v : Value) (w : World) : Prop :=
  VsOk L ∧ ∃ a cap, v = .slice a L.length cap ∧ L.length ≤ cap ∧ cap ≤ maxLen ∧ (0 < L.length → ∃ b off, a = some ⟨b, off, none⟩ ∧ b < w.heap.size ∧ ∀ j, j < L.length → At4Vs (L.getD j Vs.z) b (off + j * 4) w)
theorem RdVs.below {L : List Vs} {v : Value} {w w' : World} (h : RdVs L v w) (hb : Below w.heap.size w w') : RdVs L v w' := by
  obtain ⟨hy, a, cap, rfl, h1, h2, h3⟩ := h
  refine ⟨hy, a, cap, rfl, h1, h2, fun hp => ?_⟩
  obtain ⟨b, off, rfl, hlt, hc⟩ := h3 hp
  exact ⟨b, off, rfl, Nat.lt_of_lt_of_le hlt hb.size, fun j hj => (hc j hj).below hb hlt⟩
theorem RdVs.drewN {L : List Vs} {v : Value} {w : World} (h : RdVs L v w) (n : Nat) : RdVs L v (w.drewN n) := h
theorem RdVs.shape {L : List Vs} {v : Value} {w : World} (h : RdVs L v w) : ∃ a cap, v = .slice a L.length cap := by
  obtain ⟨_, a, cap, rfl, _⟩ := h
  exact ⟨a, cap, rfl⟩
theorem OwnVs.cellsAt {B : Nat} {L : List Vs} {g cap : Nat} {w : World} (h : OwnVs B L (.slice (some ⟨g, 0, none⟩) L.length cap) w) {j : Nat} (hj : j < L.length) : At4Vs (L.getD j Vs.z) g (j * 4) w := by
  obtain ⟨hy, ho⟩ := h
  obtain ⟨c0, c1, c2, c3⟩ := cellsVs_at hj
  exact ⟨(World.ownsRow.cellAt ho _ (by omega)).trans c0, (World.ownsRow.cellAt ho _ (by omega)).trans c1, (World.ownsRow.cellAt ho _ (by omega)).trans c2, (World.ownsRow.cellAt ho _ (by omega)).trans c3⟩
theorem OwnVs.rd {B : Nat} {L : List Vs} {v : Value} {w : World} (h : OwnVs B L v w) : RdVs L v w := by
  have h' := h
  obtain ⟨hy, ho⟩ := h
  have hl := World.ownsRow.lt ho
  refine ⟨hy, ?_⟩
  rcases ho.2 with ⟨rfl, hn⟩ | ⟨g, cap, cur, rfl, hb, _, h1, h2, _⟩
  · exact ⟨none, 0, by rw [hn], by omega, by simp [maxLen], fun hp => by omega⟩
  · exact ⟨some ⟨g, 0, none⟩, cap, rfl, h1, h2, fun hp => ⟨g, 0, rfl, (hl g rfl).2, fun j hj => by
      rw [Nat.zero_add]; exact h'.cellsAt hj⟩⟩
theorem OwnVs.mono {B B' : Nat} {L : List Vs} {v : Value} {w : World} (h : OwnVs B L v w) (hB : B' ≤ B) : OwnVs B' L v w := by
  obtain ⟨hy, h1, h2⟩ := h
  refine ⟨hy, h1, ?_⟩
  rcases h2 with h2 | ⟨g, cap, cur, rfl, hb, r⟩
  · exact .inl h2
  · exact .inr ⟨g, cap, cur, rfl, Nat.le_trans hB hb, r⟩
theorem OwnVs.alloc {B : Nat} {L : List Vs} {v : Value} {w : World} (h : OwnVs B L v w) (o : Obj) : OwnVs B L v (w.alloc o) := ⟨h.1, World.ownsRow.alloc h.2 o⟩
theorem OwnVs.below {B : Nat} {L : List Vs} {v : Value} {w w' : World} (h : OwnVs B L v w) (hb : Below w.heap.size w w') : OwnVs B L v w' := by
  obtain ⟨hy, h1, h2⟩ := h
  refine ⟨hy, h1, ?_⟩
  rcases h2 with h2 | ⟨g, cap, cur, rfl, hb', hg, r⟩
  · exact .inl h2
  · exact .inr ⟨g, cap, cur, rfl, hb', (hb.block g (Array.getElem?_eq_some_iff.1 hg).1).trans hg, r⟩
theorem OwnVs.empty (B : Nat) (w : World) : OwnVs B [] (.slice none 0 0) w := ⟨VsOk.nil, World.ownsRow_nil _ _ _ _⟩
theorem OwnVs.drewN {B : Nat} {L : List Vs} {v : Value} {w : World} (h : OwnVs B L v w) (n : Nat) : OwnVs B L v (w.drewN n) := h
/-- It stays where a block below it is written. -/
theorem OwnVs.keep {B b : Nat} {L : List Vs} {v : Value} {w : World} (h : OwnVs B L v w) (hb : b < B) (o : Nat) (u : Value) : OwnVs B L v (w.setCell ⟨b, o, none⟩ u) := ⟨h.1, ownsRow_setCell_below h.2 hb u⟩
theorem OwnVs.one {x : Vs} (hx : x.ok) (w : World) : OwnVs w.heap.size [x] (.slice (some ⟨w.heap.size, 0, none⟩) 1 1) (w.alloc (.cells #[.int .i64 x.n, .int .i64 x.r, .int .i64 x.k, x.s] 33)) :=
  ⟨VsOk.one hx, rfl, .inr ⟨w.heap.size, 1, #[.int .i64 x.n, .int .i64 x.r, .int .i64 x.k, x.s], rfl, Nat.le_refl _, Go.heap_alloc_new w _, Nat.le_refl _, by decide, rfl, rfl⟩⟩
theorem OwnVs.newNil (w : World) : OwnVs w.heap.size [] (.slice (some ⟨w.heap.size, 0, none⟩) 0 0) (w.alloc (.cells #[] 33)) :=
  ⟨VsOk.nil, rfl, .inr ⟨w.heap.size, 0, #[], rfl, Nat.le_refl _, Go.heap_alloc_new w _, Nat.le_refl _, by decide, rfl, rfl⟩⟩
/-- What may be appended: the entries M. -/
def FromVs (M : List Vs) (tx : TypeId) (u : Value) (w : World) : Prop := VsOk M ∧ Src Try.prog 4 tx u M.length (cellsVs M) w
theorem RdVs.src {L : List Vs} {v : Value} {w : World} (h : RdVs L v w) : FromVs L 22 v w := by
  obtain ⟨hy, a, cap, rfl, h1, h2, h3⟩ := h
  refine ⟨hy, ?_⟩
  have hl : (cellsVs L).length = L.length * 4 := cellsVs_len L
  cases a with
  | none =>
    by_cases hp : 0 < L.length
    · obtain ⟨b, off, he, _⟩ := h3 hp
      cases he
    · have : L = [] := List.eq_nil_of_length_eq_zero (by omega)
      subst this
      exact Src.ofNil w Try.underlying22 cap
  | some ad =>
    refine Src.ofSlice w Try.underlying22 ad L.length cap (cellsVs L) hl (fun i u hu => ?_) (oneCell_vs L hy)
    have hi : i < L.length * 4 := by
      have := (List.getElem?_eq_some_iff.1 hu).1
      omega
    obtain ⟨b, off, he, _, hc⟩ := h3 (by omega)
    cases he
    rw [Addr.add_lit]
    have hj : i / 4 < L.length := by omega
    obtain ⟨c0, c1, c2, c3⟩ := hc (i / 4) hj
    obtain ⟨d0, d1, d2, d3⟩ := cellsVs_at hj
    have h3' : i = i / 4 * 4 ∨ i = i / 4 * 4 + 1 ∨ i = i / 4 * 4 + 2 ∨ i = i / 4 * 4 + 3 := by omega
    generalize i / 4 = j at *
    rcases h3' with rfl | rfl | rfl | rfl
    · rw [c0]
      rw [d0] at hu
      exact hu
    · rw [← Nat.add_assoc, c1]
      rw [d1] at hu
      exact hu
    · rw [← Nat.add_assoc, c2]
      rw [d2] at hu
      exact hu
    · rw [← Nat.add_assoc, c3]
      rw [d3] at hu
      exact hu
section
variable {w : World}
/-- append, onto entries of the call's own. -/
theorem wp_appVs {ops : Array Oper} {rest : List Oper} {o : Oper} {a : Act} {Q : Exit → Act → World → Prop} (hgd : o.guard = none) (s x : Operand) (tx : TypeId)
    (ho : o.op = .call { callee := .builtin .append, args := #[s, x], argTypes := #[22, tx] }) (B : Nat) (L M : List Vs) (v u : Value) (hs : a.eval s = v) (hx : a.eval x = u)
    (hown : OwnVs B L v w) (hsrc : FromVs M tx u w) (hB : B ≤ w.heap.size) (hn : L.length + M.length ≤ 1099511627776)
    (h : ∀ v' w', OwnVs B (L ++ M) v' w' → Below B w w' → wpList Try.prog ops Q rest (a.put o.dst v') w') : wpList Try.prog ops Q (o :: rest) a w := by
  obtain ⟨i0, hi, hz0, hz1, hz2⟩ := info_parts info_vs
  refine wpList_own_src w hgd s x 22 tx ho B 33 i0 (.agg #[.int .i64 0, .int .i64 0, .int .i64 0, .slice none 0 0]) 4 48 Try.underlying22 hi hz0 hz1 hz2 rfl (by decide) v L.length (cellsVs L) hs hown.2 u M.length (cellsVs M) hx hsrc.2 (by unfold maxLen; omega) (by omega) hB ?_
  intro v' w' h1 h2
  refine h v' w' ⟨hown.1.app hsrc.1, ?_⟩ ((Below.refl _ _).grown h2 hB (fun k hk => (World.ownsRow.lt hown.2 k hk).1))
  rw [List.length_append, cellsVs_app]
  exact h1
/-- append, onto entries of the call's own, as one step of a region that draws its order. -/
theorem step_appVs {ops : Array Oper} {o : Oper} {a : Act} {K : Act → World → Prop} {Q : Exit → Act → World → Prop} {E : Prop} (hgd : o.guard = none) (s x : Operand) (tx : TypeId)
    (ho : o.op = .call { callee := .builtin .append, args := #[s, x], argTypes := #[22, tx] }) (B : Nat) (L M : List Vs) (v u : Value) (hs : a.eval s = v) (hx : a.eval x = u)
    (hown : OwnVs B L v w) (hsrc : FromVs M tx u w) (hB : B ≤ w.heap.size) (hn : L.length + M.length ≤ 1099511627776)
    (h : ∀ v' w', OwnVs B (L ++ M) v' w' → Below B w w' → K (a.put o.dst v') w') : if Region.wanted o (yielded ops a.tmps) = true then Oper.wp Try.prog o a w K Q else E := by
  have hw : Region.wanted o (yielded ops a.tmps) = true := by simp [Region.wanted, hgd]
  rw [if_pos hw]
  obtain ⟨i0, hi, hz0, hz1, hz2⟩ := info_parts info_vs
  obtain ⟨v', w', hr, h1, h2⟩ := run_own_src (P := Try.prog) w B 22 tx o.type 33 i0 (.agg #[.int .i64 0, .int .i64 0, .int .i64 0, .slice none 0 0]) 4 48 Try.underlying22 hi hz0 hz1 hz2 rfl (by decide) v L.length (cellsVs L) hown.2 u M.length (cellsVs M) hsrc.2 (by unfold maxLen; omega) (by omega) hB
  unfold Oper.wp execOp
  simp only [ho, resolve, invoke, builtin, Sem.run_bind, Sem.run_pure, Result.andThen_ok, List.map_toArray, List.map_cons, List.map_nil, hs, hx, hr]
  refine h v' w' ⟨hown.1.app hsrc.1, ?_⟩ ((Below.refl _ _).grown h2 hB (fun k hk => (World.ownsRow.lt hown.2 k hk).1))
  rw [List.length_append, cellsVs_app]
  exact h1
end
/-- An own slice with an entry: its block. -/
theorem OwnVs.block {B : Nat} {L : List Vs} {a : Option Addr} {n cap : Nat} {w : World} (h : OwnVs B L (.slice a n cap) w) (hp : 0 < L.length) : ∃ g, a = some ⟨g, 0, none⟩ ∧ B ≤ g ∧ g < w.heap.size ∧ n = L.length ∧ L.length ≤ cap ∧ cap ≤ maxLen := by
  have ho := h.2
  rcases ho.2 with ⟨he, hn⟩ | ⟨g, cap', cur, he, hb, _, h1, h2, _⟩
  · omega
  · simp only [Value.slice.injEq] at he
    obtain ⟨rfl, hnl, rfl⟩ := he
    exact ⟨g, rfl, hb, (World.ownsRow.lt ho g rfl).2, hnl, h1, h2⟩
/-- What a store of an entry's four cells leaves. -/
theorem OwnVs.stored {B : Nat} {L : List Vs} {g cap : Nat} {w : World} (h : OwnVs B L (.slice (some ⟨g, 0, none⟩) L.length cap) w) (j : Nat) {x : Vs} (hx : x.ok) :
    OwnVs B (L.set j x) (.slice (some ⟨g, 0, none⟩) L.length cap) ((((w.setCell ⟨g, j * 4, none⟩ (.int .i64 x.n)).setCell ⟨g, j * 4 + 1, none⟩ (.int .i64 x.r)).setCell ⟨g, j * 4 + 2, none⟩ (.int .i64 x.k)).setCell ⟨g, j * 4 + 3, none⟩ x.s) := by
  obtain ⟨hy, ho⟩ := h
  refine ⟨hy.set j hx, ?_⟩
  have h1 := (World.ownsRow.stored ho (j * 4) (.int .i64 x.n)).1
  have h2 := (World.ownsRow.stored h1 (j * 4 + 1) (.int .i64 x.r)).1
  have h3 := (World.ownsRow.stored h2 (j * 4 + 2) (.int .i64 x.k)).1
  have h4 := (World.ownsRow.stored h3 (j * 4 + 3) x.s).1
  rw [List.length_set, cellsVs_set]
  exact h4
/-- What a store of an entry's count leaves. -/
theorem OwnVs.storedC {B : Nat} {L : List Vs} {g cap : Nat} {w : World} (h : OwnVs B L (.slice (some ⟨g, 0, none⟩) L.length cap) w) {j : Nat} (hj : j < L.length) {c : Int} (hx : -9223372036854775808 ≤ c ∧ c ≤ 9223372036854775807) :
    OwnVs B (L.set j ⟨(L.getD j Vs.z).n, c, (L.getD j Vs.z).k, (L.getD j Vs.z).s⟩) (.slice (some ⟨g, 0, none⟩) L.length cap) (w.setCell ⟨g, j * 4 + 1, none⟩ (.int .i64 c)) := by
  obtain ⟨hy, ho⟩ := h
  refine ⟨hy.set j ⟨(hy.at_ j).1, hx, (hy.at_ j).2.2⟩, ?_⟩
  have h2 := (World.ownsRow.stored ho (j * 4 + 1) (.int .i64 c)).1
  rw [List.length_set, cellsVs_set]
  obtain ⟨c0, c1, c2, c3⟩ := cellsVs_at hj
  have e : ((((cellsVs L).set (j * 4) (.int .i64 (L.getD j Vs.z).n)).set (j * 4 + 1) (.int .i64 c)).set (j * 4 + 2) (.int .i64 (L.getD j Vs.z).k)).set (j * 4 + 3) (L.getD j Vs.z).s = (cellsVs L).set (j * 4 + 1) (.int .i64 c) := by
    apply List.ext_getElem?
    intro i
    simp only [List.getElem?_set, List.length_set]
    have l0 : j * 4 < L.length * 4 := by omega
    have l1 : j * 4 + 1 < L.length * 4 := by omega
    have l2 : j * 4 + 2 < L.length * 4 := by omega
    have l3 : j * 4 + 3 < L.length * 4 := by omega
    by_cases h0 : i = j * 4
    · subst h0
      have q := (List.getElem?_eq_some_iff.1 c0).2
      simpa [cellsVs_len, l0] using q.symm
    · by_cases h1 : i = j * 4 + 1
      · subst h1
        simp [cellsVs_len, l1]
      · by_cases h2 : i = j * 4 + 2
        · subst h2
          have q := (List.getElem?_eq_some_iff.1 c2).2
          simpa [cellsVs_len, l2] using q.symm
        · by_cases h3 : i = j * 4 + 3
          · subst h3
            have q := (List.getElem?_eq_some_iff.1 c3).2
            simpa [cellsVs_len, l3] using q.symm
          · simp [Ne.symm h0, Ne.symm h1, Ne.symm h2, Ne.symm h3]
  rw [e]
  exact h2
theorem OwnVs.frozen {B : Nat} {L : List Vs} {g cap : Nat} {w : World} (h : OwnVs B L (.slice (some ⟨g, 0, none⟩) L.length cap) w) (j : Nat) : w.frozen? ⟨g, j, none⟩ = false := World.ownsRow.frozenAt h.2 j
end Go.Proofs.Ytakickggpfbafaa
