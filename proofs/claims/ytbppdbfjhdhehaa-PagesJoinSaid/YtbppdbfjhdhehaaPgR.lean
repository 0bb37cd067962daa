/- Rows of slices of bytes: of the call's own (OwnP), such as can be read (RdP), and lists of bytes that can be read (RdPs). -/
import Derived.Test.YtbppdbfjhdhehaaStepApp
import Derived.Test.YtbppdbfjhdhehaaBel
import Derived.OneCell
namespace Go.Proofs.Ytbppdbfjhdhehaa
open Go.RowKit
set_option linter.unusedVariables false
set_option linter.unusedSimpArgs false
theorem row_apart {w : World} {B B' : Nat} {t t' : TypeId} {m m' : Nat} {v v' : Value} {n n' : Nat} {c c' : List Value} (h : w.ownsRow B t m v n c) (h' : w.ownsRow B' t' m' v' n' c') (ht : t ≠ t') {g : Nat} (hg : v.ownBlock = some g) : v'.ownBlock ≠ some g := by
  intro e
  rcases h.2 with ⟨rfl, _⟩ | ⟨g1, cap, cur, rfl, _, hc, _⟩
  · cases hg
  · injection hg with hg
    have hg : g1 = g := hg
    subst hg
    rcases h'.2 with ⟨rfl, _⟩ | ⟨g2, cap2, cur2, rfl, _, hc2, _⟩
    · cases e
    · injection e with e
      have e : g2 = g1 := e
      subst e
      rw [hc] at hc2
      injection hc2 with hc2
      injection hc2 with _ h3 _
      exact ht h3
theorem row_keep {w w' : World} {B : Nat} {t : TypeId} {m : Nat} {v : Value} {n : Nat} {c : List Value} (h : w.ownsRow B t m v n c) (hb : ∀ g, g < w.heap.size → v.ownBlock = some g → w'.heap[g]? = w.heap[g]?) : w'.ownsRow B t m v n c := by
  refine ⟨h.1, ?_⟩
  rcases h.2 with h2 | ⟨g1, cap, cur, rfl, h3, hc, r⟩
  · exact .inl h2
  · exact .inr ⟨g1, cap, cur, rfl, h3, (hb g1 (Array.getElem?_eq_some_iff.1 hc).1 rfl).trans hc, r⟩
/-- Just the own row of v has turned. -/
def Lone (v : Value) (w w' : World) : Prop := w.heap.size ≤ w'.heap.size ∧ ∀ g, g < w.heap.size → v.ownBlock ≠ some g → w'.heap[g]? = w.heap[g]?
theorem row_lone {w w' : World} {B B' : Nat} {t t' : TypeId} {m m' : Nat} {v v' : Value} {n n' : Nat} {c c' : List Value} (h : w.ownsRow B t m v n c) (h' : w.ownsRow B' t' m' v' n' c') (ht : t ≠ t') (hl : Lone v' w w') : w'.ownsRow B t m v n c :=
  row_keep h (fun g hg e => hl.2 g hg (row_apart h h' ht e))
theorem Lone.of {v : Value} {w w' : World} (h : Below w.heap.size w w') : Lone v w w' := ⟨h.size, fun g hg _ => h.block g hg⟩
theorem Lone.grown {v : Value} {w w' : World} (h : w.grownBy w' v.ownBlock) : Lone v w w' := ⟨h.size, fun g hg hne => h.block g hg (Ne.symm hne)⟩
theorem Lone.size {v : Value} {w w' : World} (h : Lone v w w') : w.heap.size ≤ w'.heap.size := h.1
theorem info_sb : (Try.prog.info? 22).map (fun i => (i.zero, i.size, i.bytes)) = some (some (.slice none 0 0), 1, 24) := by kernel_rfl
abbrev nilP : Value := .slice none 0 0
def OneP (us : List Value) : Prop := ∀ u ∈ us, u.oneCell' = true
theorem OneP.app {us vs : List Value} (h : OneP us) (k : OneP vs) : OneP (us ++ vs) := fun u hu => (List.mem_append.1 hu).elim (h u) (k u)
/-- A row of slices of the call's own. -/
def OwnP (B : Nat) (us : List Value) (v : Value) (w : World) : Prop := OneP us ∧ w.ownsRow B 22 1 v us.length us
/-- A row of slices that can be read. -/
def RdP (us : List Value) (v : Value) (w : World) : Prop :=
  OneP us ∧ ∃ a cap, v = .slice a us.length cap ∧ us.length ≤ cap ∧ cap ≤ maxLen ∧ (0 < us.length → ∃ b off, a = some ⟨b, off, none⟩ ∧ b < w.heap.size ∧ ∀ j, j < us.length → w.cell? ⟨b, off + j, none⟩ = some (us.getD j nilP))
theorem at_getDP {us : List Value} {j : Nat} (h : j < us.length) : us[j]? = some (us.getD j nilP) := by simp [List.getD, h]
theorem RdP.below {us : List Value} {v : Value} {w w' : World} (h : RdP us v w) (hb : Below w.heap.size w w') : RdP us v w' := by
  obtain ⟨h0, a, cap, rfl, h1, h2, h3⟩ := h
  refine ⟨h0, a, cap, rfl, h1, h2, fun hp => ?_⟩
  obtain ⟨b, off, rfl, hlt, hc⟩ := h3 hp
  exact ⟨b, off, rfl, Nat.lt_of_lt_of_le hlt hb.size, fun j hj => (hb.cell (p := ⟨b, off + j, none⟩) hlt).trans (hc j hj)⟩
theorem rd_shape {L : List Int} {v : Value} {w : World} (h : Rd L v w) : ∃ a cap, v = .slice a L.length cap := by
  obtain ⟨_, a, cap, rfl, _⟩ := h
  exact ⟨a, cap, rfl⟩
theorem RdP.shape {us : List Value} {v : Value} {w : World} (h : RdP us v w) : ∃ a cap, v = .slice a us.length cap := by
  obtain ⟨_, a, cap, rfl, _⟩ := h
  exact ⟨a, cap, rfl⟩
theorem OwnP.rd {B : Nat} {us : List Value} {v : Value} {w : World} (h : OwnP B us v w) : RdP us v w := by
  obtain ⟨hy, ho⟩ := h
  have hl := World.ownsRow.lt ho
  refine ⟨hy, ?_⟩
  rcases ho.2 with ⟨rfl, hn⟩ | ⟨g, cap, cur, rfl, hb, _, h1, h2, _⟩
  · exact ⟨none, 0, by rw [hn], by omega, by simp [maxLen], fun hp => by omega⟩
  · exact ⟨some ⟨g, 0, none⟩, cap, rfl, h1, h2, fun hp => ⟨g, 0, rfl, (hl g rfl).2, fun j hj => by
      rw [Nat.zero_add]; exact (World.ownsRow.cellAt ho j (by omega)).trans (at_getDP hj)⟩⟩
theorem OwnP.mono {B B' : Nat} {us : List Value} {v : Value} {w : World} (h : OwnP B us v w) (hB : B' ≤ B) : OwnP B' us v w := by
  obtain ⟨hy, h1, h2⟩ := h
  refine ⟨hy, h1, ?_⟩
  rcases h2 with h2 | ⟨g, cap, cur, rfl, hb, r⟩
  · exact .inl h2
  · exact .inr ⟨g, cap, cur, rfl, Nat.le_trans hB hb, r⟩
theorem OwnP.keep {B : Nat} {us : List Value} {v : Value} {w w' : World} (h : OwnP B us v w) (hb : ∀ g, g < w.heap.size → v.ownBlock = some g → w'.heap[g]? = w.heap[g]?) : OwnP B us v w' := ⟨h.1, row_keep h.2 hb⟩
theorem OwnP.below {B : Nat} {us : List Value} {v : Value} {w w' : World} (h : OwnP B us v w) (hb : Below w.heap.size w w') : OwnP B us v w' := h.keep (fun g hg _ => hb.block g hg)
theorem OwnP.alloc {B : Nat} {us : List Value} {v : Value} {w : World} (h : OwnP B us v w) (o : Obj) : OwnP B us v (w.alloc o) := h.below (b1 o)
theorem OwnP.empty (B : Nat) (w : World) : OwnP B [] (.slice none 0 0) w := ⟨fun _ h => (by cases h), World.ownsRow_nil _ _ _ _⟩
theorem OwnP.one {u : Value} (hu : u.oneCell' = true) (w : World) : OwnP w.heap.size [u] (.slice (some ⟨w.heap.size, 0, none⟩) 1 1) (w.alloc (.cells #[u] 22)) :=
  ⟨fun x hx => by rw [List.mem_singleton] at hx; rw [hx]; exact hu, rfl, .inr ⟨w.heap.size, 1, #[u], rfl, Nat.le_refl _, Go.heap_alloc_new w _, Nat.le_refl _, by decide, rfl, rfl⟩⟩
theorem OwnP.lt {B : Nat} {us : List Value} {v : Value} {w : World} (h : OwnP B us v w) {g : Nat} (hg : v.ownBlock = some g) : B ≤ g ∧ g < w.heap.size := World.ownsRow.lt h.2 g hg
/-- An own row of slices with an element: its cells, and what a store leaves. -/
theorem OwnP.cells {B : Nat} {us : List Value} {a : Option Addr} {n cap : Nat} {w : World} (h : OwnP B us (.slice a n cap) w) (hp : 0 < us.length) :
    ∃ g, a = some ⟨g, 0, none⟩ ∧ n = us.length ∧ B ≤ g ∧ g < w.heap.size ∧ (∀ j, j < us.length → w.cell? ⟨g, j, none⟩ = some (us.getD j nilP) ∧ w.frozen? ⟨g, j, none⟩ = false) := by
  obtain ⟨hy, ho⟩ := h
  have h2 := ho.2
  rcases h2 with ⟨he, hn⟩ | ⟨g, cap', cur, he, hb, _⟩
  · omega
  · simp only [Value.slice.injEq] at he
    obtain ⟨rfl, hnl, rfl⟩ := he
    subst hnl
    exact ⟨g, rfl, rfl, hb, (World.ownsRow.lt ho g rfl).2, fun j hj => ⟨(World.ownsRow.cellAt ho j (by omega)).trans (at_getDP hj), World.ownsRow.frozenAt ho j⟩⟩
theorem OwnP.put {B : Nat} {us : List Value} {g n cap : Nat} {w : World} (h : OwnP B us (.slice (some ⟨g, 0, none⟩) n cap) w) (hp : 0 < us.length) (j : Nat) {u : Value} (hu : u.oneCell' = true) : OwnP B (us.set j u) (.slice (some ⟨g, 0, none⟩) n cap) (w.setCell ⟨g, j, none⟩ u) := by
  obtain ⟨g', he, hn, -, -, -⟩ := h.cells hp
  subst hn
  refine ⟨fun x hx => ?_, ?_⟩
  · rcases List.mem_or_eq_of_mem_set hx with h' | rfl
    · exact h.1 x h'
    · exact hu
  · rw [List.length_set]
    exact (World.ownsRow.stored h.2 j u).1
/-- What may be appended: the slices ms. -/
def FromP (ms : List Value) (tx : TypeId) (u : Value) (w : World) : Prop := OneP ms ∧ Src Try.prog 1 tx u ms.length ms w
theorem RdP.src {us : List Value} {v : Value} {w : World} (h : RdP us v w) : FromP us 24 v w := by
  obtain ⟨hy, a, cap, rfl, h1, h2, h3⟩ := h
  refine ⟨hy, ?_⟩
  have hl : us.length = us.length * 1 := by rw [Nat.mul_one]
  cases a with
  | none =>
    by_cases hp : 0 < us.length
    · obtain ⟨b, off, he, _⟩ := h3 hp
      cases he
    · have : us = [] := List.eq_nil_of_length_eq_zero (by omega)
      subst this
      exact Src.ofNil w Try.underlying24 cap
  | some ad =>
    refine Src.ofSlice w Try.underlying24 ad us.length cap us hl (fun j u hu => ?_) hy
    have hj : j < us.length := (List.getElem?_eq_some_iff.1 hu).1
    obtain ⟨b, off, he, _, hc⟩ := h3 (by omega)
    cases he
    rw [Addr.add_lit, hc j hj]
    rw [at_getDP hj] at hu
    exact hu
section
variable {w : World}
/-- append, onto a row of slices of the call's own. -/
theorem wp_appP {ops : Array Oper} {rest : List Oper} {o : Oper} {a : Act} {Q : Exit → Act → World → Prop} (hgd : o.guard = none) (s x : Operand) (tx : TypeId)
    (ho : o.op = .call { callee := .builtin .append, args := #[s, x], argTypes := #[24, tx] }) (B : Nat) (L M : List Value) (v u : Value) (hs : a.eval s = v) (hx : a.eval x = u)
    (hown : OwnP B L v w) (hsrc : FromP M tx u w) (hB : B ≤ w.heap.size) (hn : L.length + M.length ≤ 1099511627776)
    (h : ∀ v' w', OwnP B (L ++ M) v' w' → Below B w w' → Lone v w w' → wpList Try.prog ops Q rest (a.put o.dst v') w') : wpList Try.prog ops Q (o :: rest) a w := by
  obtain ⟨i0, hi, hz0, hz1, hz2⟩ := info_parts info_sb
  refine wpList_own_src w hgd s x 24 tx ho B 22 i0 (.slice none 0 0) 1 24 Try.underlying24 hi hz0 hz1 hz2 rfl (by decide) v L.length L hs hown.2 u M.length M hx hsrc.2 (by unfold maxLen; omega) (by omega) hB ?_
  intro v' w' h1 h2
  refine h v' w' ⟨hown.1.app hsrc.1, ?_⟩ ((Below.refl _ _).grown h2 hB (fun k hk => (World.ownsRow.lt hown.2 k hk).1)) (Lone.grown h2)
  rw [List.length_append]
  exact h1
theorem step_appP {ops : Array Oper} {o : Oper} {a : Act} {K : Act → World → Prop} {Q : Exit → Act → World → Prop} {E : Prop} (hgd : o.guard = none) (s x : Operand) (tx : TypeId)
    (ho : o.op = .call { callee := .builtin .append, args := #[s, x], argTypes := #[24, tx] }) (B : Nat) (L M : List Value) (v u : Value) (hs : a.eval s = v) (hx : a.eval x = u)
    (hown : OwnP B L v w) (hsrc : FromP M tx u w) (hB : B ≤ w.heap.size) (hn : L.length + M.length ≤ 1099511627776)
    (h : ∀ v' w', OwnP B (L ++ M) v' w' → Below B w w' → Lone v w w' → K (a.put o.dst v') w') : if Region.wanted o (yielded ops a.tmps) = true then Oper.wp Try.prog o a w K Q else E := by
  have hw : Region.wanted o (yielded ops a.tmps) = true := by simp [Region.wanted, hgd]
  rw [if_pos hw]
  obtain ⟨i0, hi, hz0, hz1, hz2⟩ := info_parts info_sb
  obtain ⟨v', w', hr, h1, h2⟩ := run_own_src (P := Try.prog) w B 24 tx o.type 22 i0 (.slice none 0 0) 1 24 Try.underlying24 hi hz0 hz1 hz2 rfl (by decide) v L.length L hown.2 u M.length M hsrc.2 (by unfold maxLen; omega) (by omega) hB
  unfold Oper.wp execOp
  simp only [ho, resolve, invoke, builtin, Sem.run_bind, Sem.run_pure, Result.andThen_ok, List.map_toArray, List.map_cons, List.map_nil, hs, hx, hr]
  refine h v' w' ⟨hown.1.app hsrc.1, ?_⟩ ((Below.refl _ _).grown h2 hB (fun k hk => (World.ownsRow.lt hown.2 k hk).1)) (Lone.grown h2)
  rw [List.length_append]
  exact h1
/-- 'make([][]string, n)': nil slices of the call's own. -/
theorem wp_makeP {ops : Array Oper} {rest : List Oper} {o : Oper} {a : Act} {Q : Exit → Act → World → Prop} (hgd : o.guard = none) (l c : Operand)
    (ho : o.op = Op.makeSlice 24 l c) (N : Nat) (hl : a.eval l = .int .i64 (N : Int)) (hc : a.eval c = .int .i64 (N : Int)) (hN : N ≤ 1099511627776)
    (h : ∀ w' : World, OwnP w.heap.size (List.replicate N nilP) (.slice (some ⟨w.heap.size, 0, none⟩) N N) w' → Below w.heap.size w w' → w.heap.size < w'.heap.size → wpList Try.prog ops Q rest (a.put o.dst (.slice (some ⟨w.heap.size, 0, none⟩) N N)) w') : wpList Try.prog ops Q (o :: rest) a w := by
  obtain ⟨i0, hi, hz0, hz1, hz2⟩ := info_parts info_sb
  refine wpList_make_full w hgd l c 24 ho w.heap.size 22 i0 (.slice none 0 0) 1 Try.underlying24 hi hz0 hz1 .i64 .i64 N N N hl hc rfl rfl (by rw [hz2]; omega) (by unfold maxLen; omega) (Nat.le_refl _) ?_
  intro w1 hown hgrow
  have ho : w1.ownsRow w.heap.size 22 1 (.slice (some ⟨w.heap.size, 0, none⟩) N N) (List.replicate N nilP).length (List.replicate N nilP) := by
    rw [show (Value.slice none 0 0).cells = #[Value.slice none 0 0] from rfl, toList_madeCells_one, Nat.mul_one] at hown
    rw [List.length_replicate]
    exact hown
  exact h w1 ⟨fun u hu => by rw [List.eq_of_mem_replicate hu]; rfl, ho⟩ ((Below.refl _ _).grown hgrow (Nat.le_refl _) (fun _ h => by cases h)) (World.ownsRow.lt ho _ rfl).2
end
/-- Levels that can be read: the slices us lie in the row, and each reads as its level. -/
def AllP (L : List (List Int)) (us : List Value) (w : World) : Prop := us.length = L.length ∧ ∀ j, j < L.length → Rd (L.getD j []) (us.getD j nilP) w
def RdPs (L : List (List Int)) (v : Value) (w : World) : Prop := ∃ us, RdP us v w ∧ AllP L us w
theorem AllP.below {L : List (List Int)} {us : List Value} {w w' : World} (h : AllP L us w) (hb : Below w.heap.size w w') : AllP L us w' := ⟨h.1, fun j hj => (h.2 j hj).below hb⟩
theorem RdPs.below {L : List (List Int)} {v : Value} {w w' : World} (h : RdPs L v w) (hb : Below w.heap.size w w') : RdPs L v w' := by
  obtain ⟨us, h1, h2⟩ := h
  exact ⟨us, h1.below hb, h2.below hb⟩
theorem RdPs.shape {L : List (List Int)} {v : Value} {w : World} (h : RdPs L v w) : ∃ a cap, v = .slice a L.length cap := by
  obtain ⟨us, h1, h2⟩ := h
  rw [← h2.1]
  exact h1.shape
/-- The cell of a level, and what it reads as. -/
theorem RdPs.at_ {L : List (List Int)} {a : Option Addr} {n cap : Nat} {w : World} (h : RdPs L (.slice a n cap) w) {k : Nat} (hk : k < L.length) :
    ∃ b off u m c, a = some ⟨b, off, none⟩ ∧ n = L.length ∧ b < w.heap.size ∧ w.cell? ⟨b, off + k, none⟩ = some (.slice u m c) ∧ Rd (L.getD k []) (.slice u m c) w ∧ m = (L.getD k []).length := by
  obtain ⟨us, ⟨-, a', cap', he, -, -, h3⟩, h4, h5⟩ := h
  simp only [Value.slice.injEq] at he
  obtain ⟨rfl, rfl, rfl⟩ := he
  obtain ⟨b, off, rfl, hb, hc⟩ := h3 (by omega)
  have hr := h5 k hk
  obtain ⟨u, c, hu⟩ := rd_shape hr
  have hcu := hc k (by omega)
  rw [hu] at hcu hr
  exact ⟨b, off, u, _, c, rfl, h4, hb, hcu, hr, rfl⟩
theorem getD_repP (N j : Nat) : (List.replicate N nilP).getD j nilP = nilP := by
  simp only [List.getD, List.getElem?_replicate]
  split <;> rfl
theorem getD_set_ne {α : Type} {l : List α} {i j : Nat} {x d : α} (h : i ≠ j) : (l.set i x).getD j d = l.getD j d := by simp [List.getD, List.getElem?_set, h]
theorem getD_set_eq {α : Type} {l : List α} {i : Nat} {x d : α} (h : i < l.length) : (l.set i x).getD i d = x := by simp [List.getD, h]
theorem getD_snoc {α : Type} {l : List α} {x d : α} {j : Nat} : (l ++ [x]).getD j d = if j < l.length then l.getD j d else if j = l.length then x else d := by
  simp only [List.getD, List.getElem?_append]
  by_cases h1 : j < l.length
  · rw [if_pos h1, if_pos h1]
  · rw [if_neg h1, if_neg h1]
    by_cases h2 : j = l.length
    · subst h2; simp
    · rw [if_neg h2, List.getElem?_eq_none (by simp; omega)]; rfl
end Go.Proofs.Ytbppdbfjhdhehaa
