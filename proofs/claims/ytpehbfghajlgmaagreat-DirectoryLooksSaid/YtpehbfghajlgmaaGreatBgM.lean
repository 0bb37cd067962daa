/- Slices of bindings (a name and three numbers: four cells each): the call's own (OwnBg), and such as can be read (RdBg). -/
import Derived.Test.YtpehbfghajlgmaaGreatProg
import Derived.Test.YtpehbfghajlgmaaGreatWords
import Derived.Test.YtpehbfghajlgmaaGreatBel
import Derived.Deep.RegionLaw
import Derived.Deep.QuietTactic
import Derived.Deep.RegionHeld3
import Derived.BigQuiet
import Derived.ProofKit
import Derived.Handy
import Derived.Lib.Hide
namespace Go.Proofs.YtpehbfghajlgmaaGreat
open Go.RowKit
set_option linter.unusedVariables false
set_option linter.unusedSimpArgs false
theorem info_bg : (Tryz.prog.info? 27).map (fun i => (i.zero, i.size, i.bytes)) = some (some (.agg #[.string ByteArray.empty, .int .i64 0, .int .i64 0, .int .i64 0]), 4, 40) := by kernel_rfl
/-- An entry. -/
structure Bg where
  n : ByteArray
  r : Int
  k : Int
  s : Int
def Bg.z : Bg := ⟨ByteArray.empty, 0, 0, 0⟩
/-- What a value of the type can be. -/
def Bg.ok (x : Bg) : Prop := x.n.size ≤ maxLen ∧ (-9223372036854775808 ≤ x.r ∧ x.r ≤ 9223372036854775807) ∧ (-9223372036854775808 ≤ x.k ∧ x.k ≤ 9223372036854775807) ∧ (-9223372036854775808 ≤ x.s ∧ x.s ≤ 9223372036854775807)
theorem Bg.z_ok : Bg.z.ok := ⟨by decide, by decide, by decide, by decide⟩
def Bg.cs (x : Bg) : List Value := [.string x.n, .int .i64 x.r, .int .i64 x.k, .int .i64 x.s]
def Bg.v (x : Bg) : Value := .agg #[.string x.n, .int .i64 x.r, .int .i64 x.k, .int .i64 x.s]
def cellsBg : List Bg → List Value
  | [] => []
  | x :: L => x.cs ++ cellsBg L
theorem cellsBg_len : ∀ L : List Bg, (cellsBg L).length = L.length * 4
  | [] => rfl
  | x :: L => by simp only [cellsBg, List.length_append, cellsBg_len L, List.length_cons, Bg.cs, List.length_nil]; omega
theorem cellsBg_app : ∀ L M : List Bg, cellsBg (L ++ M) = cellsBg L ++ cellsBg M
  | [], M => rfl
  | x :: L, M => by simp only [cellsBg, List.cons_append, cellsBg_app L M, List.append_assoc]
theorem cellsBg_take : ∀ (L : List Bg) (n : Nat), cellsBg (L.take n) = (cellsBg L).take (n * 4)
  | [], n => by simp [cellsBg]
  | x :: L, 0 => by simp [cellsBg]
  | x :: L, n + 1 => by
    rw [List.take_succ_cons, show (n + 1) * 4 = n * 4 + 1 + 1 + 1 + 1 by omega]
    simp only [cellsBg, Bg.cs, List.cons_append, List.nil_append, List.take_succ_cons, cellsBg_take L n]
theorem cellsBg_at : ∀ {L : List Bg} {j : Nat}, j < L.length → (cellsBg L)[j * 4]? = some (.string (L.getD j Bg.z).n) ∧ (cellsBg L)[j * 4 + 1]? = some (.int .i64 (L.getD j Bg.z).r) ∧ (cellsBg L)[j * 4 + 2]? = some (.int .i64 (L.getD j Bg.z).k) ∧ (cellsBg L)[j * 4 + 3]? = some (.int .i64 (L.getD j Bg.z).s)
  | [], j, h => by simp at h
  | x :: L, 0, h => ⟨rfl, rfl, rfl, rfl⟩
  | x :: L, j + 1, h => by
    have := cellsBg_at (L := L) (j := j) (by simp at h; omega)
    rw [show (j + 1) * 4 = j * 4 + 1 + 1 + 1 + 1 by omega]
    simp only [cellsBg, Bg.cs, List.cons_append, List.nil_append]
    simp only [List.getD_eq_getElem?_getD, List.getElem?_cons_succ] at this ⊢
    exact this
theorem cellsBg_set : ∀ (L : List Bg) (j : Nat) (x : Bg), cellsBg (L.set j x) = ((((cellsBg L).set (j * 4) (.string x.n)).set (j * 4 + 1) (.int .i64 x.r)).set (j * 4 + 2) (.int .i64 x.k)).set (j * 4 + 3) (.int .i64 x.s)
  | [], j, x => by simp [cellsBg]
  | y :: L, 0, x => by simp [cellsBg, Bg.cs]
  | y :: L, j + 1, x => by
    rw [show (j + 1) * 4 = j * 4 + 1 + 1 + 1 + 1 by omega]
    simp only [List.set_cons_succ, cellsBg, Bg.cs, List.cons_append, List.nil_append, cellsBg_set L j x]
def BgOk (L : List Bg) : Prop := ∀ x ∈ L, x.ok
theorem oneCell_bg : ∀ L : List Bg, BgOk L → ∀ v ∈ cellsBg L, v.oneCell' = true
  | [], _, v, h => by simp [cellsBg] at h
  | x :: L, ho, v, h => by
    simp only [cellsBg, List.mem_append] at h
    rcases h with h | h
    · simp only [Bg.cs, List.mem_cons, List.mem_nil_iff, or_false] at h
      rcases h with rfl | rfl | rfl | rfl
      · rfl
      · rfl
      · rfl
      · rfl
    · exact oneCell_bg L (fun y hy => ho y (List.mem_cons_of_mem _ hy)) v h
theorem BgOk.nil : BgOk [] := fun _ h => by cases h
theorem BgOk.app {L M : List Bg} (h : BgOk L) (k : BgOk M) : BgOk (L ++ M) := fun n hn => by
  rcases List.mem_append.1 hn with h' | h'
  · exact h n h'
  · exact k n h'
theorem BgOk.one {x : Bg} (h : x.ok) : BgOk [x] := fun n hn => by
  rw [List.mem_singleton] at hn
  subst hn
  exact h
theorem BgOk.at_ {L : List Bg} (h : BgOk L) (j : Nat) : (L.getD j Bg.z).ok := by
  by_cases hk : j < L.length
  · have := h L[j] (List.getElem_mem hk)
    simpa [List.getD, hk] using this
  · have e : L.getD j Bg.z = Bg.z := by simp [List.getD, List.getElem?_eq_none (Nat.le_of_not_lt hk)]
    rw [e]
    exact Bg.z_ok
theorem BgOk.set {L : List Bg} (h : BgOk L) (j : Nat) {x : Bg} (hx : x.ok) : BgOk (L.set j x) := fun y hy => by
  rcases List.mem_or_eq_of_mem_set hy with h' | rfl
  · exact h y h'
  · exact hx
theorem BgOk.take {L : List Bg} (h : BgOk L) (n : Nat) : BgOk (L.take n) := fun y hy => h y (List.mem_of_mem_take hy)
/-- A slice of entries of the call's own. -/
def OwnBg (B : Nat) (L : List Bg) (v : Value) (w : World) : Prop := BgOk L ∧ w.ownsRow B 27 4 v L.length (cellsBg L)
/-- Four cells that hold an entry. -/
def At4Bg (x : Bg) (b o : Nat) (w : World) : Prop := w.cell? ⟨b, o, none⟩ = some (.string x.n) ∧ w.cell? ⟨b, o + 1, none⟩ = some (.int .i64 x.r) ∧ w.cell? ⟨b, o + 2, none⟩ = some (.int .i64 x.k) ∧ w.cell? ⟨b, o + 3, none⟩ = some (.int .i64 x.s)
theorem At4Bg.below {x : Bg} {b o B : Nat} {w w' : World} (h : At4Bg x b o w) (hb : Below B w w') (hlt : b < B) : At4Bg x b o w' :=
  ⟨(hb.cell (p := ⟨b, o, none⟩) hlt).trans h.1, (hb.cell (p := ⟨b, o + 1, none⟩) hlt).trans h.2.1, (hb.cell (p := ⟨b, o + 2, none⟩) hlt).trans h.2.2.1, (hb.cell (p := ⟨b, o + 3, none⟩) hlt).trans h.2.2.2⟩
/-- A slice of entries that can be read. -/
def RdBg (L : List Bg) (v : Value) (w : World) : Prop :=
  BgOk L ∧ ∃ a cap, v = .slice a L.length cap ∧ L.length ≤ cap ∧ cap ≤ maxLen ∧ (0 < L.length → ∃ b off, a = some ⟨b, off, none⟩ ∧ b < w.heap.size ∧ ∀ j, j < L.length → At4Bg (L.getD j Bg.z) b (off + j * 4) w)
theorem RdBg.below {L : List Bg} {v : Value} {w w' : World} (h : RdBg L v w) (hb : Below w.heap.size w w') : RdBg L v w' := by
  obtain ⟨hy, a, cap, rfl, h1, h2, h3⟩ := h
  refine ⟨hy, a, cap, rfl, h1, h2, fun hp => ?_⟩
  obtain ⟨b, off, rfl, hlt, hc⟩ := h3 hp
  exact ⟨b, off, rfl, Nat.lt_of_lt_of_le hlt hb.size, fun j hj => (hc j hj).below hb hlt⟩
theorem RdBg.drewN {L : List Bg} {v : Value} {w : World} (h : RdBg L v w) (n : Nat) : RdBg L v (w.drewN n) := h
theorem RdBg.shape {L : List Bg} {v : Value} {w : World} (h : RdBg L v w) : ∃ a cap, v = .slice a L.length cap := by
  obtain ⟨_, a, cap, rfl, _⟩ := h
  exact ⟨a, cap, rfl⟩
theorem OwnBg.cellsAt {B : Nat} {L : List Bg} {g cap : Nat} {w : World} (h : OwnBg B L (.slice (some ⟨g, 0, none⟩) L.length cap) w) {j : Nat} (hj : j < L.length) : At4Bg (L.getD j Bg.z) g (j * 4) w := by
  obtain ⟨hy, ho⟩ := h
  obtain ⟨c0, c1, c2, c3⟩ := cellsBg_at hj
  exact ⟨(World.ownsRow.cellAt ho _ (by omega)).trans c0, (World.ownsRow.cellAt ho _ (by omega)).trans c1, (World.ownsRow.cellAt ho _ (by omega)).trans c2, (World.ownsRow.cellAt ho _ (by omega)).trans c3⟩
theorem OwnBg.rd {B : Nat} {L : List Bg} {v : Value} {w : World} (h : OwnBg B L v w) : RdBg L v w := by
  have h' := h
  obtain ⟨hy, ho⟩ := h
  have hl := World.ownsRow.lt ho
  refine ⟨hy, ?_⟩
  rcases ho.2 with ⟨rfl, hn⟩ | ⟨g, cap, cur, rfl, hb, _, h1, h2, _⟩
  · exact ⟨none, 0, by rw [hn], by omega, by simp [maxLen], fun hp => by omega⟩
  · exact ⟨some ⟨g, 0, none⟩, cap, rfl, h1, h2, fun hp => ⟨g, 0, rfl, (hl g rfl).2, fun j hj => by
      rw [Nat.zero_add]; exact h'.cellsAt hj⟩⟩
theorem OwnBg.mono {B B' : Nat} {L : List Bg} {v : Value} {w : World} (h : OwnBg B L v w) (hB : B' ≤ B) : OwnBg B' L v w := by
  obtain ⟨hy, h1, h2⟩ := h
  refine ⟨hy, h1, ?_⟩
  rcases h2 with h2 | ⟨g, cap, cur, rfl, hb, r⟩
  · exact .inl h2
  · exact .inr ⟨g, cap, cur, rfl, Nat.le_trans hB hb, r⟩
theorem OwnBg.alloc {B : Nat} {L : List Bg} {v : Value} {w : World} (h : OwnBg B L v w) (o : Obj) : OwnBg B L v (w.alloc o) := ⟨h.1, World.ownsRow.alloc h.2 o⟩
theorem OwnBg.below {B : Nat} {L : List Bg} {v : Value} {w w' : World} (h : OwnBg B L v w) (hb : Below w.heap.size w w') : OwnBg B L v w' := by
  obtain ⟨hy, h1, h2⟩ := h
  refine ⟨hy, h1, ?_⟩
  rcases h2 with h2 | ⟨g, cap, cur, rfl, hb', hg, r⟩
  · exact .inl h2
  · exact .inr ⟨g, cap, cur, rfl, hb', (hb.block g (Array.getElem?_eq_some_iff.1 hg).1).trans hg, r⟩
theorem OwnBg.empty (B : Nat) (w : World) : OwnBg B [] (.slice none 0 0) w := ⟨BgOk.nil, World.ownsRow_nil _ _ _ _⟩
theorem OwnBg.drewN {B : Nat} {L : List Bg} {v : Value} {w : World} (h : OwnBg B L v w) (n : Nat) : OwnBg B L v (w.drewN n) := h
/-- It stays where a block below it is written. -/
theorem OwnBg.keep {B b : Nat} {L : List Bg} {v : Value} {w : World} (h : OwnBg B L v w) (hb : b < B) (o : Nat) (u : Value) : OwnBg B L v (w.setCell ⟨b, o, none⟩ u) := ⟨h.1, ownsRow_setCell_below h.2 hb u⟩
theorem OwnBg.one {x : Bg} (hx : x.ok) (w : World) : OwnBg w.heap.size [x] (.slice (some ⟨w.heap.size, 0, none⟩) 1 1) (w.alloc (.cells #[.string x.n, .int .i64 x.r, .int .i64 x.k, .int .i64 x.s] 27)) :=
  ⟨BgOk.one hx, rfl, .inr ⟨w.heap.size, 1, #[.string x.n, .int .i64 x.r, .int .i64 x.k, .int .i64 x.s], rfl, Nat.le_refl _, Go.heap_alloc_new w _, Nat.le_refl _, by decide, rfl, rfl⟩⟩
theorem OwnBg.newNil (w : World) : OwnBg w.heap.size [] (.slice (some ⟨w.heap.size, 0, none⟩) 0 0) (w.alloc (.cells #[] 27)) :=
  ⟨BgOk.nil, rfl, .inr ⟨w.heap.size, 0, #[], rfl, Nat.le_refl _, Go.heap_alloc_new w _, Nat.le_refl _, by decide, rfl, rfl⟩⟩
/-- What may be appended: the entries M. -/
def FromBg (M : List Bg) (tx : TypeId) (u : Value) (w : World) : Prop := BgOk M ∧ Src Tryz.prog 4 tx u M.length (cellsBg M) w
theorem RdBg.src {L : List Bg} {v : Value} {w : World} (h : RdBg L v w) : FromBg L 22 v w := by
  obtain ⟨hy, a, cap, rfl, h1, h2, h3⟩ := h
  refine ⟨hy, ?_⟩
  have hl : (cellsBg L).length = L.length * 4 := cellsBg_len L
  cases a with
  | none =>
    by_cases hp : 0 < L.length
    · obtain ⟨b, off, he, _⟩ := h3 hp
      cases he
    · have : L = [] := List.eq_nil_of_length_eq_zero (by omega)
      subst this
      exact Src.ofNil w Tryz.underlying22 cap
  | some ad =>
    refine Src.ofSlice w Tryz.underlying22 ad L.length cap (cellsBg L) hl (fun i u hu => ?_) (oneCell_bg L hy)
    have hi : i < L.length * 4 := by
      have := (List.getElem?_eq_some_iff.1 hu).1
      omega
    obtain ⟨b, off, he, _, hc⟩ := h3 (by omega)
    cases he
    rw [Addr.add_lit]
    have hj : i / 4 < L.length := by omega
    obtain ⟨c0, c1, c2, c3⟩ := hc (i / 4) hj
    obtain ⟨d0, d1, d2, d3⟩ := cellsBg_at hj
    have h3' : i = i / 4 * 4 ∨ i = i / 4 * 4 + 1 ∨ i = i / 4 * 4 + 2 ∨ i = i / 4 * 4 + 3 := by omega
    generalize i / 4 = j at *
    rcases h3' with rfl | rfl | rfl | rfl
    · rw [c0]
      rw [d0] at hu
      exact hu
    · rw [← Nat.add_assoc, c1]
      rw [d1] at hu
      exact hu
    · rw [← Nat.add_assoc, c2]
      rw [d2] at hu
      exact hu
    · rw [← Nat.add_assoc, c3]
      rw [d3] at hu
      exact hu
section
variable {w : World}
/-- append, onto entries of the call's own. -/
theorem wp_appBg {ops : Array Oper} {rest : List Oper} {o : Oper} {a : Act} {Q : Exit → Act → World → Prop} (hgd : o.guard = none) (s x : Operand) (tx : TypeId)
    (ho : o.op = .call { callee := .builtin .append, args := #[s, x], argTypes := #[22, tx] }) (B : Nat) (L M : List Bg) (v u : Value) (hs : a.eval s = v) (hx : a.eval x = u)
    (hown : OwnBg B L v w) (hsrc : FromBg M tx u w) (hB : B ≤ w.heap.size) (hn : L.length + M.length ≤ 1099511627776)
    (h : ∀ v' w', OwnBg B (L ++ M) v' w' → Below B w w' → wpList Tryz.prog ops Q rest (a.put o.dst v') w') : wpList Tryz.prog ops Q (o :: rest) a w := by
  obtain ⟨i0, hi, hz0, hz1, hz2⟩ := info_parts info_bg
  refine wpList_own_src w hgd s x 22 tx ho B 27 i0 (.agg #[.string ByteArray.empty, .int .i64 0, .int .i64 0, .int .i64 0]) 4 40 Tryz.underlying22 hi hz0 hz1 hz2 rfl (by decide) v L.length (cellsBg L) hs hown.2 u M.length (cellsBg M) hx hsrc.2 (by unfold maxLen; omega) (by omega) hB ?_
  intro v' w' h1 h2
  refine h v' w' ⟨hown.1.app hsrc.1, ?_⟩ ((Below.refl _ _).grown h2 hB (fun k hk => (World.ownsRow.lt hown.2 k hk).1))
  rw [List.length_append, cellsBg_app]
  exact h1
/-- append, onto entries of the call's own, as one step of a region that draws its order. -/
theorem step_appBg {ops : Array Oper} {o : Oper} {a : Act} {K : Act → World → Prop} {Q : Exit → Act → World → Prop} {E : Prop} (hgd : o.guard = none) (s x : Operand) (tx : TypeId)
    (ho : o.op = .call { callee := .builtin .append, args := #[s, x], argTypes := #[22, tx] }) (B : Nat) (L M : List Bg) (v u : Value) (hs : a.eval s = v) (hx : a.eval x = u)
    (hown : OwnBg B L v w) (hsrc : FromBg M tx u w) (hB : B ≤ w.heap.size) (hn : L.length + M.length ≤ 1099511627776)
    (h : ∀ v' w', OwnBg B (L ++ M) v' w' → Below B w w' → K (a.put o.dst v') w') : if Region.wanted o (yielded ops a.tmps) = true then Oper.wp Tryz.prog o a w K Q else E := by
  have hw : Region.wanted o (yielded ops a.tmps) = true := by simp [Region.wanted, hgd]
  rw [if_pos hw]
  obtain ⟨i0, hi, hz0, hz1, hz2⟩ := info_parts info_bg
  obtain ⟨v', w', hr, h1, h2⟩ := run_own_src (P := Tryz.prog) w B 22 tx o.type 27 i0 (.agg #[.string ByteArray.empty, .int .i64 0, .int .i64 0, .int .i64 0]) 4 40 Tryz.underlying22 hi hz0 hz1 hz2 rfl (by decide) v L.length (cellsBg L) hown.2 u M.length (cellsBg M) hsrc.2 (by unfold maxLen; omega) (by omega) hB
  unfold Oper.wp execOp
  simp only [ho, resolve, invoke, builtin, Sem.run_bind, Sem.run_pure, Result.andThen_ok, List.map_toArray, List.map_cons, List.map_nil, hs, hx, hr]
  refine h v' w' ⟨hown.1.app hsrc.1, ?_⟩ ((Below.refl _ _).grown h2 hB (fun k hk => (World.ownsRow.lt hown.2 k hk).1))
  rw [List.length_append, cellsBg_app]
  exact h1
end
/-- An own slice with an entry: its block. -/
theorem OwnBg.block {B : Nat} {L : List Bg} {a : Option Addr} {n cap : Nat} {w : World} (h : OwnBg B L (.slice a n cap) w) (hp : 0 < L.length) : ∃ g, a = some ⟨g, 0, none⟩ ∧ B ≤ g ∧ g < w.heap.size ∧ n = L.length ∧ L.length ≤ cap ∧ cap ≤ maxLen := by
  have ho := h.2
  rcases ho.2 with ⟨he, hn⟩ | ⟨g, cap', cur, he, hb, _, h1, h2, _⟩
  · omega
  · simp only [Value.slice.injEq] at he
    obtain ⟨rfl, hnl, rfl⟩ := he
    exact ⟨g, rfl, hb, (World.ownsRow.lt ho g rfl).2, hnl, h1, h2⟩
/-- What a store of an entry's four cells leaves. -/
theorem OwnBg.stored {B : Nat} {L : List Bg} {g cap : Nat} {w : World} (h : OwnBg B L (.slice (some ⟨g, 0, none⟩) L.length cap) w) (j : Nat) {x : Bg} (hx : x.ok) :
    OwnBg B (L.set j x) (.slice (some ⟨g, 0, none⟩) L.length cap) ((((w.setCell ⟨g, j * 4, none⟩ (.string x.n)).setCell ⟨g, j * 4 + 1, none⟩ (.int .i64 x.r)).setCell ⟨g, j * 4 + 2, none⟩ (.int .i64 x.k)).setCell ⟨g, j * 4 + 3, none⟩ (.int .i64 x.s)) := by
  obtain ⟨hy, ho⟩ := h
  refine ⟨hy.set j hx, ?_⟩
  have h1 := (World.ownsRow.stored ho (j * 4) (.string x.n)).1
  have h2 := (World.ownsRow.stored h1 (j * 4 + 1) (.int .i64 x.r)).1
  have h3 := (World.ownsRow.stored h2 (j * 4 + 2) (.int .i64 x.k)).1
  have h4 := (World.ownsRow.stored h3 (j * 4 + 3) (.int .i64 x.s)).1
  rw [List.length_set, cellsBg_set]
  exact h4
/-- What a store of To leaves. -/
theorem OwnBg.storedT {B : Nat} {L : List Bg} {g cap : Nat} {w : World} (h : OwnBg B L (.slice (some ⟨g, 0, none⟩) L.length cap) w) {j : Nat} (hj : j < L.length) {c : Int} (hx : -9223372036854775808 ≤ c ∧ c ≤ 9223372036854775807) :
    OwnBg B (L.set j ⟨(L.getD j Bg.z).n, (L.getD j Bg.z).r, (L.getD j Bg.z).k, c⟩) (.slice (some ⟨g, 0, none⟩) L.length cap) (w.setCell ⟨g, j * 4 + 3, none⟩ (.int .i64 c)) := by
  obtain ⟨hy, ho⟩ := h
  refine ⟨hy.set j ⟨(hy.at_ j).1, (hy.at_ j).2.1, (hy.at_ j).2.2.1, hx⟩, ?_⟩
  have h2 := (World.ownsRow.stored ho (j * 4 + 3) (.int .i64 c)).1
  rw [List.length_set, cellsBg_set]
  obtain ⟨c0, c1, c2, c3⟩ := cellsBg_at hj
  have e : ((((cellsBg L).set (j * 4) (.string (L.getD j Bg.z).n)).set (j * 4 + 1) (.int .i64 (L.getD j Bg.z).r)).set (j * 4 + 2) (.int .i64 (L.getD j Bg.z).k)).set (j * 4 + 3) (.int .i64 c) = (cellsBg L).set (j * 4 + 3) (.int .i64 c) := by
    apply List.ext_getElem?
    intro i
    simp only [List.getElem?_set, List.length_set]
    have l0 : j * 4 < L.length * 4 := by omega
    have l1 : j * 4 + 1 < L.length * 4 := by omega
    have l2 : j * 4 + 2 < L.length * 4 := by omega
    have l3 : j * 4 + 3 < L.length * 4 := by omega
    by_cases h3 : i = j * 4 + 3
    · subst h3
      simp [cellsBg_len, l3]
    · by_cases h0 : i = j * 4
      · subst h0
        have q := (List.getElem?_eq_some_iff.1 c0).2
        simpa [cellsBg_len, l0] using q.symm
      · by_cases h1 : i = j * 4 + 1
        · subst h1
          have q := (List.getElem?_eq_some_iff.1 c1).2
          simpa [cellsBg_len, l1] using q.symm
        · by_cases h2 : i = j * 4 + 2
          · subst h2
            have q := (List.getElem?_eq_some_iff.1 c2).2
            simpa [cellsBg_len, l2] using q.symm
          · simp [Ne.symm h0, Ne.symm h1, Ne.symm h2, Ne.symm h3]
  rw [e]
  exact h2
theorem OwnBg.frozen {B : Nat} {L : List Bg} {g cap : Nat} {w : World} (h : OwnBg B L (.slice (some ⟨g, 0, none⟩) L.length cap) w) (j : Nat) : w.frozen? ⟨g, j, none⟩ = false := World.ownsRow.frozenAt h.2 j
end Go.Proofs.YtpehbfghajlgmaaGreat
