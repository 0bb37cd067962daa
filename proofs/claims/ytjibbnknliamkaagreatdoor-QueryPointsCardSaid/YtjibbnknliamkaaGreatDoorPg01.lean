/- Ents, WireSum, Unframe, StepApp, OrdE, SrtN: in one text. -/
import Derived.Test.YtjibbnknliamkaaGreatDoorProg
import Derived.Test.YtjibbnknliamkaaGreatDoorPg00
import Derived.Deep.RegionLaw
import Derived.Deep.QuietTactic
import Derived.Deep.RegionHeld3
import Derived.BigQuiet
import Derived.ProofKit
import Derived.Handy
import Derived.Lib.Hide
import Derived.Shelf.Strconv.Itoa0
import Derived.Lib.Bytealg
import Derived.Lib.Strings
import Derived.Lib.Walk
namespace Go.Proofs.YtjibbnknliamkaaGreatDoor
open Go.RowKit
set_option linter.unusedVariables false
set_option linter.unusedSimpArgs false
theorem info_ent : (Tryz.prog.info? 64).map (fun i => (i.zero, i.size, i.bytes)) = some (some (.agg #[.string ByteArray.empty, .int .i64 0, .int .i64 0]), 3, 32) := by kernel_rfl
/-- An entry. -/
structure Ent where
  k : ByteArray
  c : Int
  e : Int
def Ent.z : Ent := ⟨ByteArray.empty, 0, 0⟩
/-- What a value of the type can be. -/
def Ent.ok (x : Ent) : Prop := x.k.size ≤ maxLen ∧ (-9223372036854775808 ≤ x.c ∧ x.c ≤ 9223372036854775807) ∧ (-9223372036854775808 ≤ x.e ∧ x.e ≤ 9223372036854775807)
theorem Ent.z_ok : Ent.z.ok := ⟨by decide, by decide, by decide⟩
def Ent.cs (x : Ent) : List Value := [.string x.k, .int .i64 x.c, .int .i64 x.e]
def cellsE : List Ent → List Value
  | [] => []
  | x :: L => x.cs ++ cellsE L
theorem cellsE_len : ∀ L : List Ent, (cellsE L).length = L.length * 3
  | [] => rfl
  | x :: L => by simp only [cellsE, List.length_append, cellsE_len L, List.length_cons, Ent.cs, List.length_nil]; omega
theorem cellsE_app : ∀ L M : List Ent, cellsE (L ++ M) = cellsE L ++ cellsE M
  | [], M => rfl
  | x :: L, M => by simp only [cellsE, List.cons_append, cellsE_app L M, List.append_assoc]
theorem cellsE_take : ∀ (L : List Ent) (n : Nat), cellsE (L.take n) = (cellsE L).take (n * 3)
  | [], n => by simp [cellsE]
  | x :: L, 0 => by simp [cellsE]
  | x :: L, n + 1 => by
    rw [List.take_succ_cons, show (n + 1) * 3 = n * 3 + 1 + 1 + 1 by omega]
    simp only [cellsE, Ent.cs, List.cons_append, List.nil_append, List.take_succ_cons, cellsE_take L n]
theorem cellsE_at : ∀ {L : List Ent} {j : Nat}, j < L.length → (cellsE L)[j * 3]? = some (.string (L.getD j Ent.z).k) ∧ (cellsE L)[j * 3 + 1]? = some (.int .i64 (L.getD j Ent.z).c) ∧ (cellsE L)[j * 3 + 2]? = some (.int .i64 (L.getD j Ent.z).e)
  | [], j, h => by simp at h
  | x :: L, 0, h => ⟨rfl, rfl, rfl⟩
  | x :: L, j + 1, h => by
    have := cellsE_at (L := L) (j := j) (by simp at h; omega)
    rw [show (j + 1) * 3 = j * 3 + 1 + 1 + 1 by omega, show j * 3 + 1 + 1 + 1 + 1 = j * 3 + 1 + 1 + 1 + 1 from rfl]
    simp only [cellsE, Ent.cs, List.cons_append, List.nil_append]
    simp only [List.getD_eq_getElem?_getD, List.getElem?_cons_succ] at this ⊢
    exact this
theorem cellsE_set : ∀ (L : List Ent) (j : Nat) (x : Ent), cellsE (L.set j x) = (((cellsE L).set (j * 3) (.string x.k)).set (j * 3 + 1) (.int .i64 x.c)).set (j * 3 + 2) (.int .i64 x.e)
  | [], j, x => by simp [cellsE]
  | y :: L, 0, x => by simp [cellsE, Ent.cs]
  | y :: L, j + 1, x => by
    rw [show (j + 1) * 3 = j * 3 + 1 + 1 + 1 by omega]
    simp only [List.set_cons_succ, cellsE, Ent.cs, List.cons_append, List.nil_append, cellsE_set L j x]
theorem oneCell_ent : ∀ L : List Ent, ∀ v ∈ cellsE L, v.oneCell' = true
  | [], v, h => by simp [cellsE] at h
  | x :: L, v, h => by
    simp only [cellsE, List.mem_append] at h
    rcases h with h | h
    · simp only [Ent.cs, List.mem_cons, List.mem_nil_iff, or_false] at h
      rcases h with rfl | rfl | rfl <;> rfl
    · exact oneCell_ent L v h
def EOk (L : List Ent) : Prop := ∀ x ∈ L, x.ok
theorem EOk.nil : EOk [] := fun _ h => by cases h
theorem EOk.app {L M : List Ent} (h : EOk L) (k : EOk M) : EOk (L ++ M) := fun n hn => by
  rcases List.mem_append.1 hn with h' | h'
  · exact h n h'
  · exact k n h'
theorem EOk.one {x : Ent} (h : x.ok) : EOk [x] := fun n hn => by
  rw [List.mem_singleton] at hn
  subst hn
  exact h
theorem EOk.at_ {L : List Ent} (h : EOk L) (j : Nat) : (L.getD j Ent.z).ok := by
  by_cases hk : j < L.length
  · have := h L[j] (List.getElem_mem hk)
    simpa [List.getD, hk] using this
  · have e : L.getD j Ent.z = Ent.z := by simp [List.getD, List.getElem?_eq_none (Nat.le_of_not_lt hk)]
    rw [e]
    exact Ent.z_ok
theorem EOk.set {L : List Ent} (h : EOk L) (j : Nat) {x : Ent} (hx : x.ok) : EOk (L.set j x) := fun y hy => by
  rcases List.mem_or_eq_of_mem_set hy with h' | rfl
  · exact h y h'
  · exact hx
theorem EOk.take {L : List Ent} (h : EOk L) (n : Nat) : EOk (L.take n) := fun y hy => h y (List.mem_of_mem_take hy)
/-- A slice of entries of the call's own. -/
def OwnE (B : Nat) (L : List Ent) (v : Value) (w : World) : Prop := EOk L ∧ w.ownsRow B 64 3 v L.length (cellsE L)
/-- Three cells that hold an entry. -/
def At3 (x : Ent) (b o : Nat) (w : World) : Prop := w.cell? ⟨b, o, none⟩ = some (.string x.k) ∧ w.cell? ⟨b, o + 1, none⟩ = some (.int .i64 x.c) ∧ w.cell? ⟨b, o + 2, none⟩ = some (.int .i64 x.e)
theorem At3.below {x : Ent} {b o B : Nat} {w w' : World} (h : At3 x b o w) (hb : Below B w w') (hlt : b < B) : At3 x b o w' :=
  ⟨(hb.cell (p := ⟨b, o, none⟩) hlt).trans h.1, (hb.cell (p := ⟨b, o + 1, none⟩) hlt).trans h.2.1, (hb.cell (p := ⟨b, o + 2, none⟩) hlt).trans h.2.2⟩
/-- A slice of entries that can be read. -/
def RdE (L : List Ent) (v : Value) (w : World) : Prop :=
  EOk L ∧ ∃ a cap, v = .slice a L.length cap ∧ L.length ≤ cap ∧ cap ≤ maxLen ∧ (0 < L.length → ∃ b off, a = some ⟨b, off, none⟩ ∧ b < w.heap.size ∧ ∀ j, j < L.length → At3 (L.getD j Ent.z) b (off + j * 3) w)
theorem RdE.below {L : List Ent} {v : Value} {w w' : World} (h : RdE L v w) (hb : Below w.heap.size w w') : RdE L v w' := by
  obtain ⟨hy, a, cap, rfl, h1, h2, h3⟩ := h
  refine ⟨hy, a, cap, rfl, h1, h2, fun hp => ?_⟩
  obtain ⟨b, off, rfl, hlt, hc⟩ := h3 hp
  exact ⟨b, off, rfl, Nat.lt_of_lt_of_le hlt hb.size, fun j hj => (hc j hj).below hb hlt⟩
theorem RdE.drewN {L : List Ent} {v : Value} {w : World} (h : RdE L v w) (n : Nat) : RdE L v (w.drewN n) := h
theorem RdE.shape {L : List Ent} {v : Value} {w : World} (h : RdE L v w) : ∃ a cap, v = .slice a L.length cap := by
  obtain ⟨_, a, cap, rfl, _⟩ := h
  exact ⟨a, cap, rfl⟩
theorem OwnE.cellsAt {B : Nat} {L : List Ent} {g cap : Nat} {w : World} (h : OwnE B L (.slice (some ⟨g, 0, none⟩) L.length cap) w) {j : Nat} (hj : j < L.length) : At3 (L.getD j Ent.z) g (j * 3) w := by
  obtain ⟨hy, ho⟩ := h
  obtain ⟨c0, c1, c2⟩ := cellsE_at hj
  exact ⟨(World.ownsRow.cellAt ho _ (by omega)).trans c0, (World.ownsRow.cellAt ho _ (by omega)).trans c1, (World.ownsRow.cellAt ho _ (by omega)).trans c2⟩
theorem OwnE.rd {B : Nat} {L : List Ent} {v : Value} {w : World} (h : OwnE B L v w) : RdE L v w := by
  have h' := h
  obtain ⟨hy, ho⟩ := h
  have hl := World.ownsRow.lt ho
  refine ⟨hy, ?_⟩
  rcases ho.2 with ⟨rfl, hn⟩ | ⟨g, cap, cur, rfl, hb, _, h1, h2, _⟩
  · exact ⟨none, 0, by rw [hn], by omega, by simp [maxLen], fun hp => by omega⟩
  · exact ⟨some ⟨g, 0, none⟩, cap, rfl, h1, h2, fun hp => ⟨g, 0, rfl, (hl g rfl).2, fun j hj => by
      rw [Nat.zero_add]; exact h'.cellsAt hj⟩⟩
theorem OwnE.mono {B B' : Nat} {L : List Ent} {v : Value} {w : World} (h : OwnE B L v w) (hB : B' ≤ B) : OwnE B' L v w := by
  obtain ⟨hy, h1, h2⟩ := h
  refine ⟨hy, h1, ?_⟩
  rcases h2 with h2 | ⟨g, cap, cur, rfl, hb, r⟩
  · exact .inl h2
  · exact .inr ⟨g, cap, cur, rfl, Nat.le_trans hB hb, r⟩
theorem OwnE.alloc {B : Nat} {L : List Ent} {v : Value} {w : World} (h : OwnE B L v w) (o : Obj) : OwnE B L v (w.alloc o) := ⟨h.1, World.ownsRow.alloc h.2 o⟩
theorem OwnE.below {B : Nat} {L : List Ent} {v : Value} {w w' : World} (h : OwnE B L v w) (hb : Below w.heap.size w w') : OwnE B L v w' := by
  obtain ⟨hy, h1, h2⟩ := h
  refine ⟨hy, h1, ?_⟩
  rcases h2 with h2 | ⟨g, cap, cur, rfl, hb', hg, r⟩
  · exact .inl h2
  · exact .inr ⟨g, cap, cur, rfl, hb', (hb.block g (Array.getElem?_eq_some_iff.1 hg).1).trans hg, r⟩
theorem OwnE.empty (B : Nat) (w : World) : OwnE B [] (.slice none 0 0) w := ⟨EOk.nil, World.ownsRow_nil _ _ _ _⟩
theorem OwnE.drewN {B : Nat} {L : List Ent} {v : Value} {w : World} (h : OwnE B L v w) (n : Nat) : OwnE B L v (w.drewN n) := h
/-- It stays where a block below it is written. -/
theorem OwnE.keep {B b : Nat} {L : List Ent} {v : Value} {w : World} (h : OwnE B L v w) (hb : b < B) (o : Nat) (u : Value) : OwnE B L v (w.setCell ⟨b, o, none⟩ u) := ⟨h.1, ownsRow_setCell_below h.2 hb u⟩
theorem OwnE.one {x : Ent} (hx : x.ok) (w : World) : OwnE w.heap.size [x] (.slice (some ⟨w.heap.size, 0, none⟩) 1 1) (w.alloc (.cells #[.string x.k, .int .i64 x.c, .int .i64 x.e] 64)) :=
  ⟨EOk.one hx, rfl, .inr ⟨w.heap.size, 1, #[.string x.k, .int .i64 x.c, .int .i64 x.e], rfl, Nat.le_refl _, Go.heap_alloc_new w _, Nat.le_refl _, by decide, rfl, rfl⟩⟩
theorem OwnE.newNil (w : World) : OwnE w.heap.size [] (.slice (some ⟨w.heap.size, 0, none⟩) 0 0) (w.alloc (.cells #[] 64)) :=
  ⟨EOk.nil, rfl, .inr ⟨w.heap.size, 0, #[], rfl, Nat.le_refl _, Go.heap_alloc_new w _, Nat.le_refl _, by decide, rfl, rfl⟩⟩
/-- What may be appended: the entries M. -/
def FromE (M : List Ent) (tx : TypeId) (u : Value) (w : World) : Prop := EOk M ∧ Src Tryz.prog 3 tx u M.length (cellsE M) w
theorem RdE.src {L : List Ent} {v : Value} {w : World} (h : RdE L v w) : FromE L 39 v w := by
  obtain ⟨hy, a, cap, rfl, h1, h2, h3⟩ := h
  refine ⟨hy, ?_⟩
  have hl : (cellsE L).length = L.length * 3 := cellsE_len L
  cases a with
  | none =>
    by_cases hp : 0 < L.length
    · obtain ⟨b, off, he, _⟩ := h3 hp
      cases he
    · have : L = [] := List.eq_nil_of_length_eq_zero (by omega)
      subst this
      exact Src.ofNil w Tryz.underlying39 cap
  | some ad =>
    refine Src.ofSlice w Tryz.underlying39 ad L.length cap (cellsE L) hl (fun i u hu => ?_) (oneCell_ent L)
    have hi : i < L.length * 3 := by
      have := (List.getElem?_eq_some_iff.1 hu).1
      omega
    obtain ⟨b, off, he, _, hc⟩ := h3 (by omega)
    cases he
    rw [Addr.add_lit]
    have hj : i / 3 < L.length := by omega
    obtain ⟨c0, c1, c2⟩ := hc (i / 3) hj
    obtain ⟨d0, d1, d2⟩ := cellsE_at hj
    have h3' : i = i / 3 * 3 ∨ i = i / 3 * 3 + 1 ∨ i = i / 3 * 3 + 2 := by omega
    generalize i / 3 = j at *
    rcases h3' with rfl | rfl | rfl
    · rw [c0]
      rw [d0] at hu
      exact hu
    · rw [← Nat.add_assoc, c1]
      rw [d1] at hu
      exact hu
    · rw [← Nat.add_assoc, c2]
      rw [d2] at hu
      exact hu
section
variable {w : World}
/-- append, onto entries of the call's own. -/
theorem wp_appE {ops : Array Oper} {rest : List Oper} {o : Oper} {a : Act} {Q : Exit → Act → World → Prop} (hgd : o.guard = none) (s x : Operand) (tx : TypeId)
    (ho : o.op = .call { callee := .builtin .append, args := #[s, x], argTypes := #[39, tx] }) (B : Nat) (L M : List Ent) (v u : Value) (hs : a.eval s = v) (hx : a.eval x = u)
    (hown : OwnE B L v w) (hsrc : FromE M tx u w) (hB : B ≤ w.heap.size) (hn : L.length + M.length ≤ 1099511627776)
    (h : ∀ v' w', OwnE B (L ++ M) v' w' → Below B w w' → wpList Tryz.prog ops Q rest (a.put o.dst v') w') : wpList Tryz.prog ops Q (o :: rest) a w := by
  obtain ⟨i0, hi, hz0, hz1, hz2⟩ := info_parts info_ent
  refine wpList_own_src w hgd s x 39 tx ho B 64 i0 (.agg #[.string ByteArray.empty, .int .i64 0, .int .i64 0]) 3 32 Tryz.underlying39 hi hz0 hz1 hz2 rfl (by decide) v L.length (cellsE L) hs hown.2 u M.length (cellsE M) hx hsrc.2 (by unfold maxLen; omega) (by omega) hB ?_
  intro v' w' h1 h2
  refine h v' w' ⟨hown.1.app hsrc.1, ?_⟩ ((Below.refl _ _).grown h2 hB (fun k hk => (World.ownsRow.lt hown.2 k hk).1))
  rw [List.length_append, cellsE_app]
  exact h1
/-- append, onto entries of the call's own, as one step of a region that draws its order. -/
theorem step_appE {ops : Array Oper} {o : Oper} {a : Act} {K : Act → World → Prop} {Q : Exit → Act → World → Prop} {E : Prop} (hgd : o.guard = none) (s x : Operand) (tx : TypeId)
    (ho : o.op = .call { callee := .builtin .append, args := #[s, x], argTypes := #[39, tx] }) (B : Nat) (L M : List Ent) (v u : Value) (hs : a.eval s = v) (hx : a.eval x = u)
    (hown : OwnE B L v w) (hsrc : FromE M tx u w) (hB : B ≤ w.heap.size) (hn : L.length + M.length ≤ 1099511627776)
    (h : ∀ v' w', OwnE B (L ++ M) v' w' → Below B w w' → K (a.put o.dst v') w') : if Region.wanted o (yielded ops a.tmps) = true then Oper.wp Tryz.prog o a w K Q else E := by
  have hw : Region.wanted o (yielded ops a.tmps) = true := by simp [Region.wanted, hgd]
  rw [if_pos hw]
  obtain ⟨i0, hi, hz0, hz1, hz2⟩ := info_parts info_ent
  obtain ⟨v', w', hr, h1, h2⟩ := run_own_src (P := Tryz.prog) w B 39 tx o.type 64 i0 (.agg #[.string ByteArray.empty, .int .i64 0, .int .i64 0]) 3 32 Tryz.underlying39 hi hz0 hz1 hz2 rfl (by decide) v L.length (cellsE L) hown.2 u M.length (cellsE M) hsrc.2 (by unfold maxLen; omega) (by omega) hB
  unfold Oper.wp execOp
  simp only [ho, resolve, invoke, builtin, Sem.run_bind, Sem.run_pure, Result.andThen_ok, List.map_toArray, List.map_cons, List.map_nil, hs, hx, hr]
  refine h v' w' ⟨hown.1.app hsrc.1, ?_⟩ ((Below.refl _ _).grown h2 hB (fun k hk => (World.ownsRow.lt hown.2 k hk).1))
  rw [List.length_append, cellsE_app]
  exact h1
end
/-- An own slice with an entry: its block. -/
theorem OwnE.block {B : Nat} {L : List Ent} {a : Option Addr} {n cap : Nat} {w : World} (h : OwnE B L (.slice a n cap) w) (hp : 0 < L.length) : ∃ g, a = some ⟨g, 0, none⟩ ∧ B ≤ g ∧ g < w.heap.size ∧ n = L.length ∧ L.length ≤ cap ∧ cap ≤ maxLen := by
  have ho := h.2
  rcases ho.2 with ⟨he, hn⟩ | ⟨g, cap', cur, he, hb, _, h1, h2, _⟩
  · omega
  · simp only [Value.slice.injEq] at he
    obtain ⟨rfl, hnl, rfl⟩ := he
    exact ⟨g, rfl, hb, (World.ownsRow.lt ho g rfl).2, hnl, h1, h2⟩
/-- What a store of an entry's three cells leaves. -/
theorem OwnE.stored {B : Nat} {L : List Ent} {g cap : Nat} {w : World} (h : OwnE B L (.slice (some ⟨g, 0, none⟩) L.length cap) w) (j : Nat) {x : Ent} (hx : x.ok) :
    OwnE B (L.set j x) (.slice (some ⟨g, 0, none⟩) L.length cap) (((w.setCell ⟨g, j * 3, none⟩ (.string x.k)).setCell ⟨g, j * 3 + 1, none⟩ (.int .i64 x.c)).setCell ⟨g, j * 3 + 2, none⟩ (.int .i64 x.e)) := by
  obtain ⟨hy, ho⟩ := h
  refine ⟨hy.set j hx, ?_⟩
  have h1 := (World.ownsRow.stored ho (j * 3) (.string x.k)).1
  have h2 := (World.ownsRow.stored h1 (j * 3 + 1) (.int .i64 x.c)).1
  have h3 := (World.ownsRow.stored h2 (j * 3 + 2) (.int .i64 x.e)).1
  rw [List.length_set, cellsE_set]
  exact h3
/-- What a store of an entry's count leaves. -/
theorem OwnE.storedC {B : Nat} {L : List Ent} {g cap : Nat} {w : World} (h : OwnE B L (.slice (some ⟨g, 0, none⟩) L.length cap) w) {j : Nat} (hj : j < L.length) {c : Int} (hx : -9223372036854775808 ≤ c ∧ c ≤ 9223372036854775807) :
    OwnE B (L.set j ⟨(L.getD j Ent.z).k, c, (L.getD j Ent.z).e⟩) (.slice (some ⟨g, 0, none⟩) L.length cap) (w.setCell ⟨g, j * 3 + 1, none⟩ (.int .i64 c)) := by
  obtain ⟨hy, ho⟩ := h
  refine ⟨hy.set j ⟨(hy.at_ j).1, hx, (hy.at_ j).2.2⟩, ?_⟩
  have h2 := (World.ownsRow.stored ho (j * 3 + 1) (.int .i64 c)).1
  rw [List.length_set, cellsE_set]
  obtain ⟨c0, c1, c2⟩ := cellsE_at hj
  have e : (((cellsE L).set (j * 3) (.string (L.getD j Ent.z).k)).set (j * 3 + 1) (.int .i64 c)).set (j * 3 + 2) (.int .i64 (L.getD j Ent.z).e) = (cellsE L).set (j * 3 + 1) (.int .i64 c) := by
    apply List.ext_getElem?
    intro i
    simp only [List.getElem?_set, List.length_set]
    have l0 : j * 3 < L.length * 3 := by omega
    have l1 : j * 3 + 1 < L.length * 3 := by omega
    have l2 : j * 3 + 2 < L.length * 3 := by omega
    by_cases h0 : i = j * 3
    · subst h0
      have q := (List.getElem?_eq_some_iff.1 c0).2
      simpa [cellsE_len, l0] using q.symm
    · by_cases h1 : i = j * 3 + 1
      · subst h1
        simp [cellsE_len, l1]
      · by_cases h2 : i = j * 3 + 2
        · subst h2
          have q := (List.getElem?_eq_some_iff.1 c2).2
          simpa [cellsE_len, l2] using q.symm
        · simp [Ne.symm h0, Ne.symm h1, Ne.symm h2]
  rw [e]
  exact h2
theorem OwnE.frozen {B : Nat} {L : List Ent} {g cap : Nat} {w : World} (h : OwnE B L (.slice (some ⟨g, 0, none⟩) L.length cap) w) (j : Nat) : w.frozen? ⟨g, j, none⟩ = false := World.ownsRow.frozenAt h.2 j
end Go.Proofs.YtjibbnknliamkaaGreatDoor
namespace Go.Proofs.YtjibbnknliamkaaGreatDoor
open Go.RowKit
set_option linter.unusedVariables false
set_option linter.unusedSimpArgs false
theorem Own.row {C : List Int} (hy : Byt C) (w : World) (hm : C.length ≤ maxLen) : Own w.heap.size C (.slice (some ⟨w.heap.size, 0, none⟩) C.length C.length) (w.alloc (.cells (cells8 C).toArray 5)) :=
  ⟨hy, by rw [cells8_len, Nat.mul_one], .inr ⟨w.heap.size, C.length, (cells8 C).toArray, rfl, Nat.le_refl _, Go.heap_alloc_new w _, Nat.le_refl _, hm, by simp [cells8_len], by rw [Nat.mul_one, ← cells8_len]; exact List.take_length⟩⟩
end Go.Proofs.YtjibbnknliamkaaGreatDoor
namespace Go.Proofs.YtjibbnknliamkaaGreatDoor
open Go.RowKit
set_option linter.unusedVariables false
set_option linter.unusedSimpArgs false
theorem below_drewN {B : Nat} {a w : World} (h : Below B a w) (n : Nat) : Below B a (w.drewN n) := ⟨h.os, h.tape, h.output, h.size, h.block⟩
theorem Rd.drop {L : List Int} {b off n cap : Nat} {w : World} (h : Rd L (.slice (some ⟨b, off, none⟩) n cap) w) (lo : Nat) (h1 : lo ≤ L.length) (a' : Option Addr) (ha : lo < cap → a' = some ⟨b, off + lo, none⟩) {m c : Nat} (hm : m = n - lo) (hc : c = cap - lo) : Rd (L.drop lo) (.slice a' m c) w := by
  have hn : n = L.length := by
    obtain ⟨_, a, cap', he, _⟩ := h
    simp only [Value.slice.injEq] at he
    exact he.2.1
  have := h.cut lo L.length h1 (Nat.le_refl _) a' ha (m := m) (c := c) (by omega) hc
  rwa [List.take_length] at this
end Go.Proofs.YtjibbnknliamkaaGreatDoor
namespace Go.Proofs.YtjibbnknliamkaaGreatDoor
open Go.RowKit
set_option linter.unusedVariables false
set_option linter.unusedSimpArgs false
theorem quiet_left {P : Program} {f : FuncId} {args : Array Value} {w : World} {n : Nat} {v : Value}
    (h : Calls P f args (w.drewN n) fun e w' => e = .returned v ∧ w.drewN n = w') : Calls P f args (w.drewN n) fun e w'' => e = .returned v ∧ ∃ m, w'' = w.drewN m :=
  h.mono fun _ _ ⟨he, hm⟩ => ⟨he, n, hm.symm⟩
theorem below_drew {B : Nat} {a w : World} (h : Below B a w) : Below B a w.drew := ⟨h.os, h.tape, h.output, h.size, h.block⟩
theorem Own.drewN {B : Nat} {L : List Int} {v : Value} {w : World} (h : Own B L v w) (n : Nat) : Own B L v (w.drewN n) := h
theorem Own.drew {B : Nat} {L : List Int} {v : Value} {w : World} (h : Own B L v w) : Own B L v w.drew := h
theorem Rd.drew {L : List Int} {v : Value} {w : World} (h : Rd L v w) : Rd L v w.drew := h
end Go.Proofs.YtjibbnknliamkaaGreatDoor
namespace Go.Proofs.YtjibbnknliamkaaGreatDoor
open Go.RowKit
set_option linter.unusedVariables false
set_option linter.unusedSimpArgs false
def lessK (a b : ByteArray) : Bool := Op.bytesLess a.toList b.toList
/-- x comes before y. -/
def bef (x y : Ent) : Bool := decide (y.c < x.c) || (x.c == y.c && lessK x.k y.k)
def cmpI (a b : Int) : Int := if a < b then -1 else if b < a then 1 else 0
def cmpE (x y : Ent) : Int := if cmpI y.c x.c ≠ 0 then cmpI y.c x.c else Lib.compareBytes x.k.data.toList y.k.data.toList
theorem cmpB_bd : ∀ a b : List UInt8, -1 ≤ Lib.compareBytes a b ∧ Lib.compareBytes a b ≤ 1
  | [], [] => by decide
  | [], _ :: _ => by simp [Lib.compareBytes]
  | _ :: _, [] => by simp [Lib.compareBytes]
  | a :: xs, b :: ys => by
    unfold Lib.compareBytes
    have := cmpB_bd xs ys
    split
    · omega
    · split <;> omega
theorem cmpB_less : ∀ a b : List UInt8, decide (Lib.compareBytes a b < 0) = Op.bytesLess a b
  | [], [] => by decide
  | [], _ :: _ => by simp [Lib.compareBytes, Op.bytesLess]
  | _ :: _, [] => by simp [Lib.compareBytes, Op.bytesLess]
  | a :: xs, b :: ys => by
    have ih := cmpB_less xs ys
    unfold Lib.compareBytes Op.bytesLess
    by_cases h : a < b
    · simp [h]
    · by_cases h2 : b < a
      · have hne : (a == b) = false := by
          rw [beq_eq_false_iff_ne]
          rintro rfl
          exact absurd h2 h
        simp [h, h2, hne]
      · have he : a = b := by
          have h3 := UInt8.le_antisymm (UInt8.not_lt.1 h2) (UInt8.not_lt.1 h)
          exact h3
        subst he
        simp only [h, if_false, decide_false, Bool.false_or, beq_self_eq_true, Bool.true_and]
        exact ih
theorem cmpI_bd (a b : Int) : -1 ≤ cmpI a b ∧ cmpI a b ≤ 1 := by
  unfold cmpI
  split
  · omega
  · split <;> omega
theorem cmpE_bd (x y : Ent) : -1 ≤ cmpE x y ∧ cmpE x y ≤ 1 := by
  unfold cmpE
  split
  · exact cmpI_bd _ _
  · exact cmpB_bd _ _
theorem cmpE_bef (x y : Ent) : decide (cmpE x y < 0) = bef x y := by
  unfold cmpE bef lessK cmpI
  rw [Lib.toList_data, Lib.toList_data, ← cmpB_less]
  by_cases h : y.c < x.c
  · simp [h]
  · by_cases h2 : x.c < y.c
    · have : (x.c == y.c) = false := by rw [beq_eq_false_iff_ne]; omega
      simp [h, h2, this]
    · have : x.c = y.c := by omega
      simp [h, h2, this]
theorem nan_any (a : Int) (w : World) : Calls Tryz.prog 131 #[.int .i64 a] w fun e w' => e = .returned (.bool false) ∧ w = w' := by
  go_enter Tryz.func131, Tryz.ntmps131
  go_wp2
  go_ret
  exact ⟨by simp, rfl⟩
theorem cmpi_any (a b : Int) (w : World) : Calls Tryz.prog 93 #[.int .i64 a, .int .i64 b] w fun e w' => e = .returned (.int .i64 (cmpI a b)) ∧ w = w' := by
  unfold cmpI
  go_enter Tryz.func93, Tryz.ntmps93
  go_wp2_with (go_at_call 131; refine (nan_any _ _).mono ?_; rintro e w' ⟨rfl, rfl⟩)
  all_goals
    go_ret
    exact ⟨ret_int (by simp [*] <;> omega), rfl⟩
set_option maxRecDepth 100000 in
theorem cmpstr_any (a b : ByteArray) (w : World) : Calls Tryz.prog 132 #[.string a, .string b] w fun e w' => e = .returned (.int .i64 (Lib.compareBytes a.data.toList b.data.toList)) ∧ w = w' := by
  have hx := run_callFunc_extern Tryz.func173 (by kernel_rfl) (by kernel_rfl) (by kernel_rfl) (e := Extern.BytealgCompare.compare) (by kernel_rfl)
  go_enter Tryz.func132, Tryz.ntmps132
  go_wp2
  rw [Lib.run_compareString]
  simp only [Result.andThen]
  rw [Oper.upon_value]
  go_wp2
  go_ret
  exact ⟨rfl, rfl⟩
theorem scmp_any (a b : ByteArray) (w : World) : Calls Tryz.prog 94 #[.string a, .string b] w fun e w' => e = .returned (.int .i64 (Lib.compareBytes a.data.toList b.data.toList)) ∧ w = w' := by
  go_enter Tryz.func94, Tryz.ntmps94
  go_wp2_with (go_at_call 132; refine (cmpstr_any _ _ _).mono ?_; rintro e w' ⟨rfl, rfl⟩)
  go_ret
  exact ⟨rfl, rfl⟩
/-- The first of two that is not zero. -/
def or2 (a b : Int) : Int := if a ≠ 0 then a else b
set_option maxRecDepth 100000 in
theorem or_any (a b : Int) (g : Nat) (w : World) (h0 : w.cell? ⟨g, 0, none⟩ = some (.int .i64 a)) (h1 : w.cell? ⟨g, 1, none⟩ = some (.int .i64 b)) :
    Calls Tryz.prog 92 #[.slice (some ⟨g, 0, none⟩) 2 2] w fun e w' => e = .returned (.int .i64 (or2 a b)) ∧ w = w' := by
  unfold or2
  by_cases ha : a = 0
  · subst ha
    rw [if_neg (by decide)]
    by_cases hb : b = 0
    · subst hb
      go_enter Tryz.func92, Tryz.ntmps92
      go_wp2
      go_loop [5, 8] (fun _ i => i = .int .i64 0 ∨ i = .int .i64 1 ∨ i = .int .i64 2) (fun _ i => 2 - (intOf i).toNat)
      case atStart => exact .inl rfl
      case round =>
        rcases hrel with rfl | rfl | rfl
        · go_wp2
          go_round
          case rel => exact .inr (.inl rfl)
          case measure => simp [intOf]
        · go_wp2
          go_round
          case rel => exact .inr (.inr rfl)
          case measure => simp [intOf]
        · go_wp2
          go_ret
          exact ⟨rfl, rfl⟩
    · have hb2 : (b != 0) = true := by simp [hb]
      clear hb
      go_enter Tryz.func92, Tryz.ntmps92
      go_wp2
      go_loop [5, 8] (fun _ i => i = .int .i64 0 ∨ i = .int .i64 1) (fun _ i => 2 - (intOf i).toNat)
      case atStart => exact .inl rfl
      case round =>
        rcases hrel with rfl | rfl
        · go_wp2
          go_round
          case rel => exact .inr rfl
          case measure => simp [intOf]
        · go_wp2
          go_ret
          exact ⟨rfl, rfl⟩
  · rw [if_pos ha]
    have ha2 : (a != 0) = true := by simp [ha]
    clear ha
    go_enter Tryz.func92, Tryz.ntmps92
    go_wp2
    go_loop [5, 8] (fun _ i => i = .int .i64 0) (fun _ i => 2 - (intOf i).toNat)
    case atStart => rfl
    case round =>
      obtain rfl := hrel
      go_wp2
      go_ret
      exact ⟨rfl, rfl⟩
theorem or2_cmp (x y : Ent) : or2 (cmpI y.c x.c) (Lib.compareBytes x.k.data.toList y.k.data.toList) = cmpE x y := rfl
set_option maxRecDepth 100000 in
theorem before_any (x y : Ent) (w : World) : Calls Tryz.prog 22 #[.agg #[.string x.k, .int .i64 x.c, .int .i64 x.e], .agg #[.string y.k, .int .i64 y.c, .int .i64 y.e]] w fun e w' =>
      e = .returned (.bool (bef x y)) ∧ Below w.heap.size w w' := by
  obtain ⟨k, c, e⟩ := x
  obtain ⟨k', c', e'⟩ := y
  unfold bef lessK
  dsimp only
  by_cases h1 : c' < c
  · have e1 : (decide (c' < c) || c == c' && Op.bytesLess k.toList k'.toList) = true := by simp [h1]
    rw [e1]
    go_enter Tryz.func22, Tryz.ntmps22
    go_wp2
    go_ret
    exact ⟨rfl, b2 _ _⟩
  · by_cases h2 : c = c'
    · subst h2
      have e1 : (decide (c < c) || c == c && Op.bytesLess k.toList k'.toList) = Op.bytesLess k.toList k'.toList := by simp
      rw [e1]
      clear h1 e1
      go_enter Tryz.func22, Tryz.ntmps22
      go_wp2
      go_ret
      exact ⟨rfl, b2 _ _⟩
    · have e2 : (c == c') = false := by simp [h2]
      have e1 : (decide (c' < c) || c == c' && Op.bytesLess k.toList k'.toList) = false := by simp [h1, h2]
      rw [e1]
      clear h2
      go_enter Tryz.func22, Tryz.ntmps22
      go_wp2
      go_ret
      exact ⟨rfl, b2 _ _⟩
end Go.Proofs.YtjibbnknliamkaaGreatDoor
namespace Go.Proofs.YtjibbnknliamkaaGreatDoor
open Go.RowKit
set_option linter.unusedVariables false
set_option linter.unusedSimpArgs false
/-- Entries j and j - 1 change places. -/
def swp (L : List Ent) (j : Nat) : List Ent := (L.set j (L.getD (j - 1) Ent.z)).set (j - 1) (L.getD j Ent.z)
/-- Entry j goes ahead as long as it comes before its neighbour. -/
def sink (L : List Ent) : Nat → List Ent
  | 0 => L
  | j + 1 => if bef (L.getD (j + 1) Ent.z) (L.getD j Ent.z) = true then sink (swp L (j + 1)) j else L
def push (A : List Ent) (x : Ent) : List Ent := sink (A ++ [x]) A.length
/-- The first i entries of L, sorted. -/
def srt (L : List Ent) (i : Nat) : List Ent := (L.take i).foldl push []
def sortE (L : List Ent) : List Ent := L.foldl push []
theorem swp_len (L : List Ent) (j : Nat) : (swp L j).length = L.length := by simp [swp]
theorem sink_len (L : List Ent) (j : Nat) : (sink L j).length = L.length := by
  induction j generalizing L with
  | zero => rfl
  | succ j ih =>
    unfold sink
    split
    · rw [ih, swp_len]
    · rfl
theorem push_len (A : List Ent) (x : Ent) : (push A x).length = A.length + 1 := by simp [push, sink_len]
theorem foldl_len (L : List Ent) : ∀ A : List Ent, (L.foldl push A).length = A.length + L.length := by
  induction L with
  | nil => intro A; simp
  | cons x L ih => intro A; rw [List.foldl_cons, ih, push_len, List.length_cons]; omega
theorem srt_len (L : List Ent) {i : Nat} (h : i ≤ L.length) : (srt L i).length = i := by
  unfold srt
  rw [foldl_len, List.length_take, List.length_nil]
  omega
theorem sortE_len (L : List Ent) : (sortE L).length = L.length := by
  unfold sortE
  rw [foldl_len]
  simp
theorem srt_all (L : List Ent) : srt L L.length = sortE L := by rw [srt, sortE, List.take_length]
theorem srt_succ {L : List Ent} {i : Nat} (h : i < L.length) : srt L (i + 1) = sink (srt L i ++ [L.getD i Ent.z]) i := by
  have e : L.take (i + 1) = L.take i ++ [L.getD i Ent.z] := by
    rw [List.take_succ_eq_append_getElem h]
    simp [List.getD, h]
  have hl := srt_len L (Nat.le_of_lt h)
  unfold srt at hl ⊢
  rw [e, List.foldl_append, List.foldl_cons, List.foldl_nil]
  show sink (_ ++ [L.getD i Ent.z]) (List.foldl push [] (List.take i L)).length = _
  rw [hl]
theorem getD_app_left {A : List Ent} (T : List Ent) {j : Nat} (h : j < A.length) : (A ++ T).getD j Ent.z = A.getD j Ent.z := by
  simp [List.getD, List.getElem?_append_left h]
theorem swp_app {A : List Ent} (T : List Ent) {j : Nat} (h : j < A.length) : swp (A ++ T) j = swp A j ++ T := by
  unfold swp
  rw [getD_app_left T h, getD_app_left T (show j - 1 < A.length by omega), List.set_append_left _ _ h, List.set_append_left _ _ (by rw [List.length_set]; omega)]
theorem sink_app (T : List Ent) (j : Nat) : ∀ A : List Ent, j < A.length → sink (A ++ T) j = sink A j ++ T := by
  induction j with
  | zero => intro A _; rfl
  | succ j ih =>
    intro A h
    unfold sink
    rw [getD_app_left T h, getD_app_left T (show j < A.length by omega), swp_app T h, ih _ (by rw [swp_len]; omega)]
    split <;> rfl
/-- The first i entries sorted, the others as they were. -/
def upTo (L : List Ent) (i : Nat) : List Ent := srt L i ++ L.drop i
theorem upTo_one (L : List Ent) : upTo L 1 = L := by
  cases L with
  | nil => rfl
  | cons x L => simp [upTo, srt, push, sink]
theorem upTo_all (L : List Ent) : upTo L L.length = sortE L := by simp [upTo, srt_all]
theorem upTo_succ {L : List Ent} {i : Nat} (h : i < L.length) : upTo L (i + 1) = sink (upTo L i) i := by
  have e : L.drop i = [L.getD i Ent.z] ++ L.drop (i + 1) := by
    rw [List.drop_eq_getElem_cons h]
    simp [List.getD, h]
  unfold upTo
  rw [srt_succ h, e, ← List.append_assoc, sink_app (L.drop (i + 1)) i (srt L i ++ [L.getD i Ent.z])]
  rw [List.length_append, srt_len L (Nat.le_of_lt h)]
  simp
theorem swp_perm {L : List Ent} {j : Nat} (h : j < L.length) (h0 : 0 < j) : (swp L j).Perm L := by
  obtain ⟨i, rfl⟩ : ∃ i, j = i + 1 := ⟨j - 1, by omega⟩
  unfold swp
  rw [Nat.add_sub_cancel]
  induction i generalizing L with
  | zero =>
    match L, h with
    | a :: b :: L, _ => exact List.Perm.swap _ _ _
  | succ i ih =>
    match L, h with
    | a :: L, h =>
      have := ih (L := L) (by simp at h; omega) (by omega)
      simpa using this
theorem sink_perm (j : Nat) : ∀ L : List Ent, j < L.length → (sink L j).Perm L := by
  induction j with
  | zero => intro L _; exact List.Perm.refl _
  | succ j ih =>
    intro L h
    unfold sink
    split
    · exact (ih _ (by rw [swp_len]; omega)).trans (swp_perm h (by omega))
    · exact List.Perm.refl _
theorem push_perm (A : List Ent) (x : Ent) : (push A x).Perm (A ++ [x]) := sink_perm _ _ (by simp)
theorem foldl_perm (L : List Ent) : ∀ A : List Ent, (L.foldl push A).Perm (A ++ L) := by
  induction L with
  | nil => intro A; simp
  | cons x L ih =>
    intro A
    refine (ih _).trans ?_
    refine ((push_perm A x).append_right L).trans ?_
    rw [List.append_assoc]
    exact List.Perm.refl _
theorem sortE_perm (L : List Ent) : (sortE L).Perm L := foldl_perm L []
theorem EOk.perm {L M : List Ent} (h : EOk L) (p : M.Perm L) : EOk M := fun x hx => h x (p.mem_iff.1 hx)
theorem EOk.drop {L : List Ent} (h : EOk L) (n : Nat) : EOk (L.drop n) := fun y hy => h y (List.mem_of_mem_drop hy)
end Go.Proofs.YtjibbnknliamkaaGreatDoor
