/- Slices of pages (two numbers and a slice of bytes: three cells each): the call's own (OwnPM), and such as can be read (RdPM). -/
import Derived.Test.YtmnahnmkffndlaaProg
import Derived.Test.YtmnahnmkffndlaaWords
import Derived.Test.YtmnahnmkffndlaaBel
import Derived.Deep.RegionLaw
import Derived.Deep.QuietTactic
import Derived.Deep.RegionHeld3
import Derived.BigQuiet
import Derived.ProofKit
import Derived.Handy
import Derived.Lib.Hide
namespace Go.Proofs.Ytmnahnmkffndlaa
open Go.RowKit
set_option linter.unusedVariables false
set_option linter.unusedSimpArgs false
theorem info_pm : (Try.prog.info? 54).map (fun i => (i.zero, i.size, i.bytes)) = some (some (.agg #[.int .i64 0, .int .i64 0, .slice none 0 0]), 3, 40) := by kernel_rfl
/-- An entry. -/
structure PM where
  n : Int
  r : Int
  s : Value
def PM.z : PM := ⟨0, 0, .slice none 0 0⟩
/-- What a value of the type can be. -/
def PM.ok (x : PM) : Prop := (-9223372036854775808 ≤ x.n ∧ x.n ≤ 9223372036854775807) ∧ (-9223372036854775808 ≤ x.r ∧ x.r ≤ 9223372036854775807) ∧ x.s.oneCell' = true
theorem PM.z_ok : PM.z.ok := ⟨by decide, by decide, rfl⟩
def PM.cs (x : PM) : List Value := [.int .i64 x.n, .int .i64 x.r, x.s]
def PM.v (x : PM) : Value := .agg #[.int .i64 x.n, .int .i64 x.r, x.s]
def cellsPM : List PM → List Value
  | [] => []
  | x :: L => x.cs ++ cellsPM L
theorem cellsPM_len : ∀ L : List PM, (cellsPM L).length = L.length * 3
  | [] => rfl
  | x :: L => by simp only [cellsPM, List.length_append, cellsPM_len L, List.length_cons, PM.cs, List.length_nil]; omega
theorem cellsPM_app : ∀ L M : List PM, cellsPM (L ++ M) = cellsPM L ++ cellsPM M
  | [], M => rfl
  | x :: L, M => by simp only [cellsPM, List.cons_append, cellsPM_app L M, List.append_assoc]
theorem cellsPM_take : ∀ (L : List PM) (n : Nat), cellsPM (L.take n) = (cellsPM L).take (n * 3)
  | [], n => by simp [cellsPM]
  | x :: L, 0 => by simp [cellsPM]
  | x :: L, n + 1 => by
    rw [List.take_succ_cons, show (n + 1) * 3 = n * 3 + 1 + 1 + 1 by omega]
    simp only [cellsPM, PM.cs, List.cons_append, List.nil_append, List.take_succ_cons, cellsPM_take L n]
theorem cellsPM_at : ∀ {L : List PM} {j : Nat}, j < L.length → (cellsPM L)[j * 3]? = some (.int .i64 (L.getD j PM.z).n) ∧ (cellsPM L)[j * 3 + 1]? = some (.int .i64 (L.getD j PM.z).r) ∧ (cellsPM L)[j * 3 + 2]? = some (L.getD j PM.z).s
  | [], j, h => by simp at h
  | x :: L, 0, h => ⟨rfl, rfl, rfl⟩
  | x :: L, j + 1, h => by
    have := cellsPM_at (L := L) (j := j) (by simp at h; omega)
    rw [show (j + 1) * 3 = j * 3 + 1 + 1 + 1 by omega, show j * 3 + 1 + 1 + 1 + 1 = j * 3 + 1 + 1 + 1 + 1 from rfl]
    simp only [cellsPM, PM.cs, List.cons_append, List.nil_append]
    simp only [List.getD_eq_getElem?_getD, List.getElem?_cons_succ] at this ⊢
    exact this
theorem cellsPM_set : ∀ (L : List PM) (j : Nat) (x : PM), cellsPM (L.set j x) = (((cellsPM L).set (j * 3) (.int .i64 x.n)).set (j * 3 + 1) (.int .i64 x.r)).set (j * 3 + 2) x.s
  | [], j, x => by simp [cellsPM]
  | y :: L, 0, x => by simp [cellsPM, PM.cs]
  | y :: L, j + 1, x => by
    rw [show (j + 1) * 3 = j * 3 + 1 + 1 + 1 by omega]
    simp only [List.set_cons_succ, cellsPM, PM.cs, List.cons_append, List.nil_append, cellsPM_set L j x]
def PMOk (L : List PM) : Prop := ∀ x ∈ L, x.ok
theorem oneCell_pm : ∀ L : List PM, PMOk L → ∀ v ∈ cellsPM L, v.oneCell' = true
  | [], _, v, h => by simp [cellsPM] at h
  | x :: L, ho, v, h => by
    simp only [cellsPM, List.mem_append] at h
    rcases h with h | h
    · simp only [PM.cs, List.mem_cons, List.mem_nil_iff, or_false] at h
      rcases h with rfl | rfl | rfl
      · rfl
      · rfl
      · exact (ho x (List.mem_cons_self ..)).2.2
    · exact oneCell_pm L (fun y hy => ho y (List.mem_cons_of_mem _ hy)) v h
theorem PMOk.nil : PMOk [] := fun _ h => by cases h
theorem PMOk.app {L M : List PM} (h : PMOk L) (k : PMOk M) : PMOk (L ++ M) := fun n hn => by
  rcases List.mem_append.1 hn with h' | h'
  · exact h n h'
  · exact k n h'
theorem PMOk.one {x : PM} (h : x.ok) : PMOk [x] := fun n hn => by
  rw [List.mem_singleton] at hn
  subst hn
  exact h
theorem PMOk.at_ {L : List PM} (h : PMOk L) (j : Nat) : (L.getD j PM.z).ok := by
  by_cases hk : j < L.length
  · have := h L[j] (List.getElem_mem hk)
    simpa [List.getD, hk] using this
  · have e : L.getD j PM.z = PM.z := by simp [List.getD, List.getElem?_eq_none (Nat.le_of_not_lt hk)]
    rw [e]
    exact PM.z_ok
theorem PMOk.set {L : List PM} (h : PMOk L) (j : Nat) {x : PM} (hx : x.ok) : PMOk (L.set j x) := fun y hy => by
  rcases List.mem_or_eq_of_mem_set hy with h' | rfl
  · exact h y h'
  · exact hx
theorem PMOk.take {L : List PM} (h : PMOk L) (n : Nat) : PMOk (L.take n) := fun y hy => h y (List.mem_of_mem_take hy)
/-- A slice of entries of the call's own. -/
def OwnPM (B : Nat) (L : List PM) (v : Value) (w : World) : Prop := PMOk L ∧ w.ownsRow B 54 3 v L.length (cellsPM L)
/-- Three cells that hold an entry. -/
def At3PM (x : PM) (b o : Nat) (w : World) : Prop := w.cell? ⟨b, o, none⟩ = some (.int .i64 x.n) ∧ w.cell? ⟨b, o + 1, none⟩ = some (.int .i64 x.r) ∧ w.cell? ⟨b, o + 2, none⟩ = some x.s
theorem At3PM.below {x : PM} {b o B : Nat} {w w' : World} (h : At3PM x b o w) (hb : Below B w w') (hlt : b < B) : At3PM x b o w' :=
  ⟨(hb.cell (p := ⟨b, o, none⟩) hlt).trans h.1, (hb.cell (p := ⟨b, o + 1, none⟩) hlt).trans h.2.1, (hb.cell (p := ⟨b, o + 2, none⟩) hlt).trans h.2.2⟩
/-- A slice of entries that can be read. -/
def RdPM (L : List PM) (v : Value) (w : World) : Prop :=
  PMOk L ∧ ∃ a cap, v = .slice a L.length cap ∧ L.length ≤ cap ∧ cap ≤ maxLen ∧ (0 < L.length → ∃ b off, a = some ⟨b, off, none⟩ ∧ b < w.heap.size ∧ ∀ j, j < L.length → At3PM (L.getD j PM.z) b (off + j * 3) w)
theorem RdPM.below {L : List PM} {v : Value} {w w' : World} (h : RdPM L v w) (hb : Below w.heap.size w w') : RdPM L v w' := by
  obtain ⟨hy, a, cap, rfl, h1, h2, h3⟩ := h
  refine ⟨hy, a, cap, rfl, h1, h2, fun hp => ?_⟩
  obtain ⟨b, off, rfl, hlt, hc⟩ := h3 hp
  exact ⟨b, off, rfl, Nat.lt_of_lt_of_le hlt hb.size, fun j hj => (hc j hj).below hb hlt⟩
theorem RdPM.drewN {L : List PM} {v : Value} {w : World} (h : RdPM L v w) (n : Nat) : RdPM L v (w.drewN n) := h
theorem RdPM.shape {L : List PM} {v : Value} {w : World} (h : RdPM L v w) : ∃ a cap, v = .slice a L.length cap := by
  obtain ⟨_, a, cap, rfl, _⟩ := h
  exact ⟨a, cap, rfl⟩
theorem OwnPM.cellsAt {B : Nat} {L : List PM} {g cap : Nat} {w : World} (h : OwnPM B L (.slice (some ⟨g, 0, none⟩) L.length cap) w) {j : Nat} (hj : j < L.length) : At3PM (L.getD j PM.z) g (j * 3) w := by
  obtain ⟨hy, ho⟩ := h
  obtain ⟨c0, c1, c2⟩ := cellsPM_at hj
  exact ⟨(World.ownsRow.cellAt ho _ (by omega)).trans c0, (World.ownsRow.cellAt ho _ (by omega)).trans c1, (World.ownsRow.cellAt ho _ (by omega)).trans c2⟩
theorem OwnPM.rd {B : Nat} {L : List PM} {v : Value} {w : World} (h : OwnPM B L v w) : RdPM L v w := by
  have h' := h
  obtain ⟨hy, ho⟩ := h
  have hl := World.ownsRow.lt ho
  refine ⟨hy, ?_⟩
  rcases ho.2 with ⟨rfl, hn⟩ | ⟨g, cap, cur, rfl, hb, _, h1, h2, _⟩
  · exact ⟨none, 0, by rw [hn], by omega, by simp [maxLen], fun hp => by omega⟩
  · exact ⟨some ⟨g, 0, none⟩, cap, rfl, h1, h2, fun hp => ⟨g, 0, rfl, (hl g rfl).2, fun j hj => by
      rw [Nat.zero_add]; exact h'.cellsAt hj⟩⟩
theorem OwnPM.mono {B B' : Nat} {L : List PM} {v : Value} {w : World} (h : OwnPM B L v w) (hB : B' ≤ B) : OwnPM B' L v w := by
  obtain ⟨hy, h1, h2⟩ := h
  refine ⟨hy, h1, ?_⟩
  rcases h2 with h2 | ⟨g, cap, cur, rfl, hb, r⟩
  · exact .inl h2
  · exact .inr ⟨g, cap, cur, rfl, Nat.le_trans hB hb, r⟩
theorem OwnPM.alloc {B : Nat} {L : List PM} {v : Value} {w : World} (h : OwnPM B L v w) (o : Obj) : OwnPM B L v (w.alloc o) := ⟨h.1, World.ownsRow.alloc h.2 o⟩
theorem OwnPM.below {B : Nat} {L : List PM} {v : Value} {w w' : World} (h : OwnPM B L v w) (hb : Below w.heap.size w w') : OwnPM B L v w' := by
  obtain ⟨hy, h1, h2⟩ := h
  refine ⟨hy, h1, ?_⟩
  rcases h2 with h2 | ⟨g, cap, cur, rfl, hb', hg, r⟩
  · exact .inl h2
  · exact .inr ⟨g, cap, cur, rfl, hb', (hb.block g (Array.getElem?_eq_some_iff.1 hg).1).trans hg, r⟩
theorem OwnPM.empty (B : Nat) (w : World) : OwnPM B [] (.slice none 0 0) w := ⟨PMOk.nil, World.ownsRow_nil _ _ _ _⟩
theorem OwnPM.drewN {B : Nat} {L : List PM} {v : Value} {w : World} (h : OwnPM B L v w) (n : Nat) : OwnPM B L v (w.drewN n) := h
/-- It stays where a block below it is written. -/
theorem OwnPM.keep {B b : Nat} {L : List PM} {v : Value} {w : World} (h : OwnPM B L v w) (hb : b < B) (o : Nat) (u : Value) : OwnPM B L v (w.setCell ⟨b, o, none⟩ u) := ⟨h.1, ownsRow_setCell_below h.2 hb u⟩
theorem OwnPM.one {x : PM} (hx : x.ok) (w : World) : OwnPM w.heap.size [x] (.slice (some ⟨w.heap.size, 0, none⟩) 1 1) (w.alloc (.cells #[.int .i64 x.n, .int .i64 x.r, x.s] 54)) :=
  ⟨PMOk.one hx, rfl, .inr ⟨w.heap.size, 1, #[.int .i64 x.n, .int .i64 x.r, x.s], rfl, Nat.le_refl _, Go.heap_alloc_new w _, Nat.le_refl _, by decide, rfl, rfl⟩⟩
theorem OwnPM.newNil (w : World) : OwnPM w.heap.size [] (.slice (some ⟨w.heap.size, 0, none⟩) 0 0) (w.alloc (.cells #[] 54)) :=
  ⟨PMOk.nil, rfl, .inr ⟨w.heap.size, 0, #[], rfl, Nat.le_refl _, Go.heap_alloc_new w _, Nat.le_refl _, by decide, rfl, rfl⟩⟩
/-- What may be appended: the entries M. -/
def FromPM (M : List PM) (tx : TypeId) (u : Value) (w : World) : Prop := PMOk M ∧ Src Try.prog 3 tx u M.length (cellsPM M) w
theorem RdPM.src {L : List PM} {v : Value} {w : World} (h : RdPM L v w) : FromPM L 27 v w := by
  obtain ⟨hy, a, cap, rfl, h1, h2, h3⟩ := h
  refine ⟨hy, ?_⟩
  have hl : (cellsPM L).length = L.length * 3 := cellsPM_len L
  cases a with
  | none =>
    by_cases hp : 0 < L.length
    · obtain ⟨b, off, he, _⟩ := h3 hp
      cases he
    · have : L = [] := List.eq_nil_of_length_eq_zero (by omega)
      subst this
      exact Src.ofNil w Try.underlying27 cap
  | some ad =>
    refine Src.ofSlice w Try.underlying27 ad L.length cap (cellsPM L) hl (fun i u hu => ?_) (oneCell_pm L hy)
    have hi : i < L.length * 3 := by
      have := (List.getElem?_eq_some_iff.1 hu).1
      omega
    obtain ⟨b, off, he, _, hc⟩ := h3 (by omega)
    cases he
    rw [Addr.add_lit]
    have hj : i / 3 < L.length := by omega
    obtain ⟨c0, c1, c2⟩ := hc (i / 3) hj
    obtain ⟨d0, d1, d2⟩ := cellsPM_at hj
    have h3' : i = i / 3 * 3 ∨ i = i / 3 * 3 + 1 ∨ i = i / 3 * 3 + 2 := by omega
    generalize i / 3 = j at *
    rcases h3' with rfl | rfl | rfl
    · rw [c0]
      rw [d0] at hu
      exact hu
    · rw [← Nat.add_assoc, c1]
      rw [d1] at hu
      exact hu
    · rw [← Nat.add_assoc, c2]
      rw [d2] at hu
      exact hu
section
variable {w : World}
/-- append, onto entries of the call's own. -/
theorem wp_appPM {ops : Array Oper} {rest : List Oper} {o : Oper} {a : Act} {Q : Exit → Act → World → Prop} (hgd : o.guard = none) (s x : Operand) (tx : TypeId)
    (ho : o.op = .call { callee := .builtin .append, args := #[s, x], argTypes := #[27, tx] }) (B : Nat) (L M : List PM) (v u : Value) (hs : a.eval s = v) (hx : a.eval x = u)
    (hown : OwnPM B L v w) (hsrc : FromPM M tx u w) (hB : B ≤ w.heap.size) (hn : L.length + M.length ≤ 1099511627776)
    (h : ∀ v' w', OwnPM B (L ++ M) v' w' → Below B w w' → wpList Try.prog ops Q rest (a.put o.dst v') w') : wpList Try.prog ops Q (o :: rest) a w := by
  obtain ⟨i0, hi, hz0, hz1, hz2⟩ := info_parts info_pm
  refine wpList_own_src w hgd s x 27 tx ho B 54 i0 (.agg #[.int .i64 0, .int .i64 0, .slice none 0 0]) 3 40 Try.underlying27 hi hz0 hz1 hz2 rfl (by decide) v L.length (cellsPM L) hs hown.2 u M.length (cellsPM M) hx hsrc.2 (by unfold maxLen; omega) (by omega) hB ?_
  intro v' w' h1 h2
  refine h v' w' ⟨hown.1.app hsrc.1, ?_⟩ ((Below.refl _ _).grown h2 hB (fun k hk => (World.ownsRow.lt hown.2 k hk).1))
  rw [List.length_append, cellsPM_app]
  exact h1
/-- append, onto entries of the call's own, as one step of a region that draws its order. -/
theorem step_appPM {ops : Array Oper} {o : Oper} {a : Act} {K : Act → World → Prop} {Q : Exit → Act → World → Prop} {E : Prop} (hgd : o.guard = none) (s x : Operand) (tx : TypeId)
    (ho : o.op = .call { callee := .builtin .append, args := #[s, x], argTypes := #[27, tx] }) (B : Nat) (L M : List PM) (v u : Value) (hs : a.eval s = v) (hx : a.eval x = u)
    (hown : OwnPM B L v w) (hsrc : FromPM M tx u w) (hB : B ≤ w.heap.size) (hn : L.length + M.length ≤ 1099511627776)
    (h : ∀ v' w', OwnPM B (L ++ M) v' w' → Below B w w' → K (a.put o.dst v') w') : if Region.wanted o (yielded ops a.tmps) = true then Oper.wp Try.prog o a w K Q else E := by
  have hw : Region.wanted o (yielded ops a.tmps) = true := by simp [Region.wanted, hgd]
  rw [if_pos hw]
  obtain ⟨i0, hi, hz0, hz1, hz2⟩ := info_parts info_pm
  obtain ⟨v', w', hr, h1, h2⟩ := run_own_src (P := Try.prog) w B 27 tx o.type 54 i0 (.agg #[.int .i64 0, .int .i64 0, .slice none 0 0]) 3 40 Try.underlying27 hi hz0 hz1 hz2 rfl (by decide) v L.length (cellsPM L) hown.2 u M.length (cellsPM M) hsrc.2 (by unfold maxLen; omega) (by omega) hB
  unfold Oper.wp execOp
  simp only [ho, resolve, invoke, builtin, Sem.run_bind, Sem.run_pure, Result.andThen_ok, List.map_toArray, List.map_cons, List.map_nil, hs, hx, hr]
  refine h v' w' ⟨hown.1.app hsrc.1, ?_⟩ ((Below.refl _ _).grown h2 hB (fun k hk => (World.ownsRow.lt hown.2 k hk).1))
  rw [List.length_append, cellsPM_app]
  exact h1
end
/-- An own slice with an entry: its block. -/
theorem OwnPM.block {B : Nat} {L : List PM} {a : Option Addr} {n cap : Nat} {w : World} (h : OwnPM B L (.slice a n cap) w) (hp : 0 < L.length) : ∃ g, a = some ⟨g, 0, none⟩ ∧ B ≤ g ∧ g < w.heap.size ∧ n = L.length ∧ L.length ≤ cap ∧ cap ≤ maxLen := by
  have ho := h.2
  rcases ho.2 with ⟨he, hn⟩ | ⟨g, cap', cur, he, hb, _, h1, h2, _⟩
  · omega
  · simp only [Value.slice.injEq] at he
    obtain ⟨rfl, hnl, rfl⟩ := he
    exact ⟨g, rfl, hb, (World.ownsRow.lt ho g rfl).2, hnl, h1, h2⟩
/-- What a store of an entry's three cells leaves. -/
theorem OwnPM.stored {B : Nat} {L : List PM} {g cap : Nat} {w : World} (h : OwnPM B L (.slice (some ⟨g, 0, none⟩) L.length cap) w) (j : Nat) {x : PM} (hx : x.ok) :
    OwnPM B (L.set j x) (.slice (some ⟨g, 0, none⟩) L.length cap) (((w.setCell ⟨g, j * 3, none⟩ (.int .i64 x.n)).setCell ⟨g, j * 3 + 1, none⟩ (.int .i64 x.r)).setCell ⟨g, j * 3 + 2, none⟩ x.s) := by
  obtain ⟨hy, ho⟩ := h
  refine ⟨hy.set j hx, ?_⟩
  have h1 := (World.ownsRow.stored ho (j * 3) (.int .i64 x.n)).1
  have h2 := (World.ownsRow.stored h1 (j * 3 + 1) (.int .i64 x.r)).1
  have h3 := (World.ownsRow.stored h2 (j * 3 + 2) x.s).1
  rw [List.length_set, cellsPM_set]
  exact h3
/-- What a store of an entry's count leaves. -/
theorem OwnPM.storedC {B : Nat} {L : List PM} {g cap : Nat} {w : World} (h : OwnPM B L (.slice (some ⟨g, 0, none⟩) L.length cap) w) {j : Nat} (hj : j < L.length) {c : Int} (hx : -9223372036854775808 ≤ c ∧ c ≤ 9223372036854775807) :
    OwnPM B (L.set j ⟨(L.getD j PM.z).n, c, (L.getD j PM.z).s⟩) (.slice (some ⟨g, 0, none⟩) L.length cap) (w.setCell ⟨g, j * 3 + 1, none⟩ (.int .i64 c)) := by
  obtain ⟨hy, ho⟩ := h
  refine ⟨hy.set j ⟨(hy.at_ j).1, hx, (hy.at_ j).2.2⟩, ?_⟩
  have h2 := (World.ownsRow.stored ho (j * 3 + 1) (.int .i64 c)).1
  rw [List.length_set, cellsPM_set]
  obtain ⟨c0, c1, c2⟩ := cellsPM_at hj
  have e : (((cellsPM L).set (j * 3) (.int .i64 (L.getD j PM.z).n)).set (j * 3 + 1) (.int .i64 c)).set (j * 3 + 2) (L.getD j PM.z).s = (cellsPM L).set (j * 3 + 1) (.int .i64 c) := by
    apply List.ext_getElem?
    intro i
    simp only [List.getElem?_set, List.length_set]
    have l0 : j * 3 < L.length * 3 := by omega
    have l1 : j * 3 + 1 < L.length * 3 := by omega
    have l2 : j * 3 + 2 < L.length * 3 := by omega
    by_cases h0 : i = j * 3
    · subst h0
      have q := (List.getElem?_eq_some_iff.1 c0).2
      simpa [cellsPM_len, l0] using q.symm
    · by_cases h1 : i = j * 3 + 1
      · subst h1
        simp [cellsPM_len, l1]
      · by_cases h2 : i = j * 3 + 2
        · subst h2
          have q := (List.getElem?_eq_some_iff.1 c2).2
          simpa [cellsPM_len, l2] using q.symm
        · simp [Ne.symm h0, Ne.symm h1, Ne.symm h2]
  rw [e]
  exact h2
theorem OwnPM.frozen {B : Nat} {L : List PM} {g cap : Nat} {w : World} (h : OwnPM B L (.slice (some ⟨g, 0, none⟩) L.length cap) w) (j : Nat) : w.frozen? ⟨g, j, none⟩ = false := World.ownsRow.frozenAt h.2 j
end Go.Proofs.Ytmnahnmkffndlaa
