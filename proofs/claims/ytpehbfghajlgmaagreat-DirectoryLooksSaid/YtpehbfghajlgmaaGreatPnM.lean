/- Slices of pins (two numbers: two cells each): the call's own (OwnPn), and such as can be read (RdPn). -/
import Derived.Test.YtpehbfghajlgmaaGreatProg
import Derived.Test.YtpehbfghajlgmaaGreatWords
import Derived.Test.YtpehbfghajlgmaaGreatBel
import Derived.Deep.RegionLaw
import Derived.Deep.QuietTactic
import Derived.Deep.RegionHeld3
import Derived.BigQuiet
import Derived.ProofKit
import Derived.Handy
import Derived.Lib.Hide
namespace Go.Proofs.YtpehbfghajlgmaaGreat
open Go.RowKit
set_option linter.unusedVariables false
set_option linter.unusedSimpArgs false
theorem info_pn : (Tryz.prog.info? 34).map (fun i => (i.zero, i.size, i.bytes)) = some (some (.agg #[.int .i64 0, .int .i64 0]), 2, 16) := by kernel_rfl
/-- An item. -/
structure Pn where
  m : Int
  n : Int
def Pn.z : Pn := ⟨0, 0⟩
def Pn.ok (x : Pn) : Prop := (-9223372036854775808 ≤ x.m ∧ x.m ≤ 9223372036854775807) ∧ (-9223372036854775808 ≤ x.n ∧ x.n ≤ 9223372036854775807)
theorem Pn.z_ok : Pn.z.ok := ⟨by decide, by decide⟩
def Pn.cs (x : Pn) : List Value := [.int .i64 x.m, .int .i64 x.n]
def Pn.v (x : Pn) : Value := .agg #[.int .i64 x.m, .int .i64 x.n]
def cellsPn : List Pn → List Value
  | [] => []
  | x :: L => x.cs ++ cellsPn L
theorem cellsPn_len : ∀ L : List Pn, (cellsPn L).length = L.length * 2
  | [] => rfl
  | x :: L => by simp only [cellsPn, List.length_append, cellsPn_len L, List.length_cons, Pn.cs, List.length_nil]; omega
theorem cellsPn_app : ∀ L M : List Pn, cellsPn (L ++ M) = cellsPn L ++ cellsPn M
  | [], M => rfl
  | x :: L, M => by simp only [cellsPn, List.cons_append, cellsPn_app L M, List.append_assoc]
theorem cellsPn_at : ∀ {L : List Pn} {j : Nat}, j < L.length → (cellsPn L)[j * 2]? = some (.int .i64 (L.getD j Pn.z).m) ∧ (cellsPn L)[j * 2 + 1]? = some (.int .i64 (L.getD j Pn.z).n)
  | [], j, h => by simp at h
  | x :: L, 0, h => ⟨rfl, rfl⟩
  | x :: L, j + 1, h => by
    have := cellsPn_at (L := L) (j := j) (by simp at h; omega)
    rw [show (j + 1) * 2 = j * 2 + 1 + 1 by omega]
    simp only [cellsPn, Pn.cs, List.cons_append, List.nil_append]
    simp only [List.getD_eq_getElem?_getD, List.getElem?_cons_succ] at this ⊢
    exact this
theorem oneCell_pn : ∀ L : List Pn, ∀ v ∈ cellsPn L, v.oneCell' = true
  | [], v, h => by simp [cellsPn] at h
  | x :: L, v, h => by
    simp only [cellsPn, List.mem_append] at h
    rcases h with h | h
    · simp only [Pn.cs, List.mem_cons, List.mem_nil_iff, or_false] at h
      rcases h with rfl | rfl <;> rfl
    · exact oneCell_pn L v h
def PnOk (L : List Pn) : Prop := ∀ x ∈ L, x.ok
theorem PnOk.nil : PnOk [] := fun _ h => by cases h
theorem PnOk.app {L M : List Pn} (h : PnOk L) (k : PnOk M) : PnOk (L ++ M) := fun n hn => by
  rcases List.mem_append.1 hn with h' | h'
  · exact h n h'
  · exact k n h'
theorem PnOk.one {x : Pn} (h : x.ok) : PnOk [x] := fun n hn => by
  rw [List.mem_singleton] at hn
  subst hn
  exact h
theorem PnOk.at_ {L : List Pn} (h : PnOk L) (j : Nat) : (L.getD j Pn.z).ok := by
  by_cases hk : j < L.length
  · have := h L[j] (List.getElem_mem hk)
    simpa [List.getD, hk] using this
  · have e : L.getD j Pn.z = Pn.z := by simp [List.getD, List.getElem?_eq_none (Nat.le_of_not_lt hk)]
    rw [e]
    exact Pn.z_ok
/-- A slice of items of the call's own. -/
def OwnPn (B : Nat) (L : List Pn) (v : Value) (w : World) : Prop := PnOk L ∧ w.ownsRow B 34 2 v L.length (cellsPn L)
/-- Two cells that hold an item. -/
def At2Pn (x : Pn) (b o : Nat) (w : World) : Prop := w.cell? ⟨b, o, none⟩ = some (.int .i64 x.m) ∧ w.cell? ⟨b, o + 1, none⟩ = some (.int .i64 x.n)
theorem At2Pn.below {x : Pn} {b o B : Nat} {w w' : World} (h : At2Pn x b o w) (hb : Below B w w') (hlt : b < B) : At2Pn x b o w' :=
  ⟨(hb.cell (p := ⟨b, o, none⟩) hlt).trans h.1, (hb.cell (p := ⟨b, o + 1, none⟩) hlt).trans h.2⟩
/-- A slice of items that can be read. -/
def RdPn (L : List Pn) (v : Value) (w : World) : Prop :=
  PnOk L ∧ ∃ a cap, v = .slice a L.length cap ∧ L.length ≤ cap ∧ cap ≤ maxLen ∧ (0 < L.length → ∃ b off, a = some ⟨b, off, none⟩ ∧ b < w.heap.size ∧ ∀ j, j < L.length → At2Pn (L.getD j Pn.z) b (off + j * 2) w)
theorem RdPn.below {L : List Pn} {v : Value} {w w' : World} (h : RdPn L v w) (hb : Below w.heap.size w w') : RdPn L v w' := by
  obtain ⟨hy, a, cap, rfl, h1, h2, h3⟩ := h
  refine ⟨hy, a, cap, rfl, h1, h2, fun hp => ?_⟩
  obtain ⟨b, off, rfl, hlt, hc⟩ := h3 hp
  exact ⟨b, off, rfl, Nat.lt_of_lt_of_le hlt hb.size, fun j hj => (hc j hj).below hb hlt⟩
theorem RdPn.shape {L : List Pn} {v : Value} {w : World} (h : RdPn L v w) : ∃ a cap, v = .slice a L.length cap := by
  obtain ⟨_, a, cap, rfl, _⟩ := h
  exact ⟨a, cap, rfl⟩
theorem OwnPn.cellsAt {B : Nat} {L : List Pn} {g cap : Nat} {w : World} (h : OwnPn B L (.slice (some ⟨g, 0, none⟩) L.length cap) w) {j : Nat} (hj : j < L.length) : At2Pn (L.getD j Pn.z) g (j * 2) w := by
  obtain ⟨hy, ho⟩ := h
  obtain ⟨c0, c1⟩ := cellsPn_at hj
  exact ⟨(World.ownsRow.cellAt ho _ (by omega)).trans c0, (World.ownsRow.cellAt ho _ (by omega)).trans c1⟩
theorem OwnPn.rd {B : Nat} {L : List Pn} {v : Value} {w : World} (h : OwnPn B L v w) : RdPn L v w := by
  have h' := h
  obtain ⟨hy, ho⟩ := h
  have hl := World.ownsRow.lt ho
  refine ⟨hy, ?_⟩
  rcases ho.2 with ⟨rfl, hn⟩ | ⟨g, cap, cur, rfl, hb, _, h1, h2, _⟩
  · exact ⟨none, 0, by rw [hn], by omega, by simp [maxLen], fun hp => by omega⟩
  · exact ⟨some ⟨g, 0, none⟩, cap, rfl, h1, h2, fun hp => ⟨g, 0, rfl, (hl g rfl).2, fun j hj => by
      rw [Nat.zero_add]; exact h'.cellsAt hj⟩⟩
theorem OwnPn.mono {B B' : Nat} {L : List Pn} {v : Value} {w : World} (h : OwnPn B L v w) (hB : B' ≤ B) : OwnPn B' L v w := by
  obtain ⟨hy, h1, h2⟩ := h
  refine ⟨hy, h1, ?_⟩
  rcases h2 with h2 | ⟨g, cap, cur, rfl, hb, r⟩
  · exact .inl h2
  · exact .inr ⟨g, cap, cur, rfl, Nat.le_trans hB hb, r⟩
theorem OwnPn.alloc {B : Nat} {L : List Pn} {v : Value} {w : World} (h : OwnPn B L v w) (o : Obj) : OwnPn B L v (w.alloc o) := ⟨h.1, World.ownsRow.alloc h.2 o⟩
theorem OwnPn.below {B : Nat} {L : List Pn} {v : Value} {w w' : World} (h : OwnPn B L v w) (hb : Below w.heap.size w w') : OwnPn B L v w' := by
  obtain ⟨hy, h1, h2⟩ := h
  refine ⟨hy, h1, ?_⟩
  rcases h2 with h2 | ⟨g, cap, cur, rfl, hb', hg, r⟩
  · exact .inl h2
  · exact .inr ⟨g, cap, cur, rfl, hb', (hb.block g (Array.getElem?_eq_some_iff.1 hg).1).trans hg, r⟩
theorem OwnPn.empty (B : Nat) (w : World) : OwnPn B [] (.slice none 0 0) w := ⟨PnOk.nil, World.ownsRow_nil _ _ _ _⟩
theorem OwnPn.one {x : Pn} (hx : x.ok) (w : World) : OwnPn w.heap.size [x] (.slice (some ⟨w.heap.size, 0, none⟩) 1 1) (w.alloc (.cells #[.int .i64 x.m, .int .i64 x.n] 34)) :=
  ⟨PnOk.one hx, rfl, .inr ⟨w.heap.size, 1, #[.int .i64 x.m, .int .i64 x.n], rfl, Nat.le_refl _, Go.heap_alloc_new w _, Nat.le_refl _, by decide, rfl, rfl⟩⟩
/-- What may be appended: the items M. -/
def FromPn (M : List Pn) (tx : TypeId) (u : Value) (w : World) : Prop := PnOk M ∧ Src Tryz.prog 2 tx u M.length (cellsPn M) w
theorem RdPn.src {L : List Pn} {v : Value} {w : World} (h : RdPn L v w) : FromPn L 24 v w := by
  obtain ⟨hy, a, cap, rfl, h1, h2, h3⟩ := h
  refine ⟨hy, ?_⟩
  have hl : (cellsPn L).length = L.length * 2 := cellsPn_len L
  cases a with
  | none =>
    by_cases hp : 0 < L.length
    · obtain ⟨b, off, he, _⟩ := h3 hp
      cases he
    · have : L = [] := List.eq_nil_of_length_eq_zero (by omega)
      subst this
      exact Src.ofNil w Tryz.underlying24 cap
  | some ad =>
    refine Src.ofSlice w Tryz.underlying24 ad L.length cap (cellsPn L) hl (fun i u hu => ?_) (oneCell_pn L)
    have hi : i < L.length * 2 := by
      have := (List.getElem?_eq_some_iff.1 hu).1
      omega
    obtain ⟨b, off, he, _, hc⟩ := h3 (by omega)
    cases he
    rw [Addr.add_lit]
    have hj : i / 2 < L.length := by omega
    obtain ⟨c0, c1⟩ := hc (i / 2) hj
    obtain ⟨d0, d1⟩ := cellsPn_at hj
    have h3' : i = i / 2 * 2 ∨ i = i / 2 * 2 + 1 := by omega
    generalize i / 2 = j at *
    rcases h3' with rfl | rfl
    · rw [c0]
      rw [d0] at hu
      exact hu
    · rw [← Nat.add_assoc, c1]
      rw [d1] at hu
      exact hu
section
variable {w : World}
/-- append, onto items of the call's own. -/
theorem wp_appPn {ops : Array Oper} {rest : List Oper} {o : Oper} {a : Act} {Q : Exit → Act → World → Prop} (hgd : o.guard = none) (s x : Operand) (tx : TypeId)
    (ho : o.op = .call { callee := .builtin .append, args := #[s, x], argTypes := #[24, tx] }) (B : Nat) (L M : List Pn) (v u : Value) (hs : a.eval s = v) (hx : a.eval x = u)
    (hown : OwnPn B L v w) (hsrc : FromPn M tx u w) (hB : B ≤ w.heap.size) (hn : L.length + M.length ≤ 1099511627776)
    (h : ∀ v' w', OwnPn B (L ++ M) v' w' → Below B w w' → wpList Tryz.prog ops Q rest (a.put o.dst v') w') : wpList Tryz.prog ops Q (o :: rest) a w := by
  obtain ⟨i0, hi, hz0, hz1, hz2⟩ := info_parts info_pn
  refine wpList_own_src w hgd s x 24 tx ho B 34 i0 (.agg #[.int .i64 0, .int .i64 0]) 2 16 Tryz.underlying24 hi hz0 hz1 hz2 rfl (by decide) v L.length (cellsPn L) hs hown.2 u M.length (cellsPn M) hx hsrc.2 (by unfold maxLen; omega) (by omega) hB ?_
  intro v' w' h1 h2
  refine h v' w' ⟨hown.1.app hsrc.1, ?_⟩ ((Below.refl _ _).grown h2 hB (fun k hk => (World.ownsRow.lt hown.2 k hk).1))
  rw [List.length_append, cellsPn_app]
  exact h1
end
end Go.Proofs.YtpehbfghajlgmaaGreat
