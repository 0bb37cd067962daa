/- Pages whose bytes lie in rows of their own: small words; append and make of pages with what stays. -/
import Derived.Test.YtmnahnmkffndlaaAr
import Derived.OwnWalk
namespace Go.Proofs.Ytmnahnmkffndlaa
open Go.RowKit Go.Maps
set_option linter.unusedVariables false
set_option linter.unusedSimpArgs false
/-- Rows of type T are as they were. -/
def KpT (T : TypeId) (w w' : World) : Prop := ∀ (i : Nat) (cur : Array Value), w.heap[i]? = some (.cells cur T (0, 0)) → w'.heap[i]? = w.heap[i]?
theorem KpT.refl (T : TypeId) (w : World) : KpT T w w := fun _ _ _ => rfl
theorem KpT.trans {T : TypeId} {a b c : World} (h : KpT T a b) (k : KpT T b c) : KpT T a c := fun i cur hi => by
  have h1 := h i cur hi
  rw [k i cur (h1.trans hi), h1]
theorem KpT.below {T : TypeId} {w w' : World} (h : Below w.heap.size w w') : KpT T w w' := fun i cur hi => h.block i (Array.getElem?_eq_some_iff.1 hi).1
theorem KpT.bytes {w w' : World} (h : KpT 5 w w') : KpB w w' := h
/-- One row of another type alone has turned. -/
theorem KpT.grown {T T' : TypeId} (hT : T ≠ T') {w w' : World} {v : Value} {B size n : Nat} {xs : List Value} (ho : w.ownsRow B T' size v n xs) (hg : w.grownBy w' v.ownBlock) : KpT T w w' := fun i cur hi => by
  refine hg.block i (Array.getElem?_eq_some_iff.1 hi).1 (fun e => ?_)
  rcases ho.2 with ⟨rfl, _⟩ | ⟨g, cap, cur', rfl, _, hgb, _⟩
  · cases e
  · simp only [Value.ownBlock, Option.some.injEq] at e
    subst e
    rw [hgb] at hi
    simp only [Option.some.injEq, Obj.cells.injEq] at hi
    exact hT hi.2.1.symm
theorem KpT.row {T T' : TypeId} (hT : T ≠ T') {g : Nat} {w w' : World} {cu : Array Value} (hg : w.heap[g]? = some (.cells cu T' (0, 0))) (h : Oth g w w') : KpT T w w' := fun i cur hi => by
  refine h.2 i (fun e => ?_)
  subst e
  rw [hg] at hi
  simp only [Option.some.injEq, Obj.cells.injEq] at hi
  exact hT hi.2.1.symm
theorem KpT.tn {T : TypeId} (hT : T ≠ 58) {B g bm : Nat} {c lo : Int} {L : List Pg} {w w' : World} (ha : ArAt B g bm c lo L w) (h : Tn g bm w w') : KpT T w w' := fun i cur hi => by
  obtain ⟨cu, hc, -⟩ := ha.row
  obtain ⟨es, clock, hb⟩ := ha.map.isMap
  refine h.block (Array.getElem?_eq_some_iff.1 hi).1 (fun e => ?_) (fun e => ?_)
  · subst e
    rw [hc] at hi
    simp only [Option.some.injEq, Obj.cells.injEq] at hi
    exact hT hi.2.1.symm
  · subst e
    rw [hb] at hi
    cases hi
theorem ne_pg8 : 5 ≠ 54 := by decide
theorem ne_ar8 : 5 ≠ 58 := by decide
theorem ne_arp : 54 ≠ 58 := by decide
theorem OwnPM.kpt {B : Nat} {L : List PM} {v : Value} {w w' : World} (h : OwnPM B L v w) (hk : KpT 54 w w') : OwnPM B L v w' := by
  obtain ⟨hy, h1, h2⟩ := h
  refine ⟨hy, h1, ?_⟩
  rcases h2 with h2 | ⟨g, cap, cur, rfl, hb', hg, r⟩
  · exact .inl h2
  · exact .inr ⟨g, cap, cur, rfl, hb', (hk g cur hg).trans hg, r⟩
/-- The pages M stand for the pages L; their bytes lie in rows from block B on. -/
def PmAt (B : Nat) : List PM → List Pg → World → Prop
  | [], [], _ => True
  | m :: M, p :: L, w => (m.n = p.n ∧ m.r = p.r ∧ Own B p.d m.s w) ∧ PmAt B M L w
  | _, _, _ => False
theorem PmAt.len {B : Nat} : ∀ {M : List PM} {L : List Pg} {w : World}, PmAt B M L w → M.length = L.length
  | [], [], _, _ => rfl
  | m :: M, p :: L, w, h => by simp [h.2.len]
  | [], p :: L, w, h => h.elim
  | m :: M, [], w, h => h.elim
theorem PmAt.kpb {B : Nat} : ∀ {M : List PM} {L : List Pg} {w w' : World}, PmAt B M L w → KpB w w' → PmAt B M L w'
  | [], [], _, _, _, _ => trivial
  | m :: M, p :: L, w, w', h, hk => ⟨⟨h.1.1, h.1.2.1, h.1.2.2.kpb hk⟩, h.2.kpb hk⟩
  | [], p :: L, w, _, h, _ => h.elim
  | m :: M, [], w, _, h, _ => h.elim
theorem PmAt.mono {B B' : Nat} (hB : B' ≤ B) : ∀ {M : List PM} {L : List Pg} {w : World}, PmAt B M L w → PmAt B' M L w
  | [], [], _, _ => trivial
  | m :: M, p :: L, w, h => ⟨⟨h.1.1, h.1.2.1, h.1.2.2.mono hB⟩, h.2.mono hB⟩
  | [], p :: L, w, h => h.elim
  | m :: M, [], w, h => h.elim
theorem PmAt.app {B : Nat} : ∀ {M : List PM} {L : List Pg} {N : List PM} {K : List Pg} {w : World}, PmAt B M L w → PmAt B N K w → PmAt B (M ++ N) (L ++ K) w
  | [], [], _, _, _, _, h => h
  | m :: M, p :: L, _, _, w, h, k => ⟨h.1, h.2.app k⟩
  | [], p :: L, _, _, w, h, _ => h.elim
  | m :: M, [], _, _, w, h, _ => h.elim
theorem PmAt.take {B : Nat} : ∀ {M : List PM} {L : List Pg} {w : World} (k : Nat), PmAt B M L w → PmAt B (M.take k) (L.take k) w
  | [], [], _, 0, _ => trivial
  | [], [], _, k + 1, _ => trivial
  | m :: M, p :: L, w, 0, h => trivial
  | m :: M, p :: L, w, k + 1, h => ⟨h.1, h.2.take k⟩
  | [], p :: L, w, _, h => h.elim
  | m :: M, [], w, _, h => h.elim
theorem PmAt.drop {B : Nat} : ∀ {M : List PM} {L : List Pg} {w : World} (k : Nat), PmAt B M L w → PmAt B (M.drop k) (L.drop k) w
  | [], [], _, 0, _ => trivial
  | [], [], _, k + 1, _ => trivial
  | m :: M, p :: L, w, 0, h => h
  | m :: M, p :: L, w, k + 1, h => h.2.drop k
  | [], p :: L, w, _, h => h.elim
  | m :: M, [], w, _, h => h.elim
def Pg.z : Pg := ⟨0, 0, []⟩
theorem PmAt.at_ {B : Nat} : ∀ {M : List PM} {L : List Pg} {w : World} {j : Nat}, PmAt B M L w → j < L.length → (M.getD j PM.z).n = (L.getD j Pg.z).n ∧ (M.getD j PM.z).r = (L.getD j Pg.z).r ∧ Own B (L.getD j Pg.z).d (M.getD j PM.z).s w
  | [], [], _, j, _, h => by simp at h
  | m :: M, p :: L, w, 0, h, _ => h.1
  | m :: M, p :: L, w, j + 1, h, hj => by
    have := h.2.at_ (j := j) (by simp at hj; omega)
    simpa [List.getD] using this
  | [], p :: L, w, _, h, _ => h.elim
  | m :: M, [], w, _, h, _ => h.elim
section
variable {w : World}
/-- append, onto pages of the call's own: rows of bytes stay. -/
theorem wp_appPMk {ops : Array Oper} {rest : List Oper} {o : Oper} {a : Act} {Q : Exit → Act → World → Prop} (hgd : o.guard = none) (s x : Operand) (tx : TypeId)
    (ho : o.op = .call { callee := .builtin .append, args := #[s, x], argTypes := #[27, tx] }) (B : Nat) (L M : List PM) (v u : Value) (hs : a.eval s = v) (hx : a.eval x = u)
    (hown : OwnPM B L v w) (hsrc : FromPM M tx u w) (hB : B ≤ w.heap.size) (hn : L.length + M.length ≤ 1099511627776)
    (h : ∀ v' w', OwnPM B (L ++ M) v' w' → Below B w w' → (∀ T, T ≠ 54 → KpT T w w') → wpList Try.prog ops Q rest (a.put o.dst v') w') : wpList Try.prog ops Q (o :: rest) a w := by
  obtain ⟨i0, hi, hz0, hz1, hz2⟩ := info_parts info_pm
  refine wpList_own_src w hgd s x 27 tx ho B 54 i0 (.agg #[.int .i64 0, .int .i64 0, .slice none 0 0]) 3 40 Try.underlying27 hi hz0 hz1 hz2 rfl (by decide) v L.length (cellsPM L) hs hown.2 u M.length (cellsPM M) hx hsrc.2 (by unfold maxLen; omega) (by omega) hB ?_
  intro v' w' h1 h2
  refine h v' w' ⟨hown.1.app hsrc.1, ?_⟩ ((Below.refl _ _).grown h2 hB (fun k hk => (World.ownsRow.lt hown.2 k hk).1)) (fun T hT => KpT.grown hT hown.2 h2)
  rw [List.length_append, cellsPM_app]
  exact h1
/-- 'make([]api.Page, 0, n)'. -/
theorem wp_make0PM {ops : Array Oper} {rest : List Oper} {o : Oper} {a : Act} {Q : Exit → Act → World → Prop} (hgd : o.guard = none) (l c : Operand)
    (ho : o.op = Op.makeSlice 27 l c) (N : Nat) (hl : a.eval l = .int .i64 0) (hc : a.eval c = .int .i64 (N : Int)) (hN : N ≤ 1099511627776)
    (h : ∀ w' : World, OwnPM w.heap.size [] (.slice (some ⟨w.heap.size, 0, none⟩) 0 N) w' → Below w.heap.size w w' → wpList Try.prog ops Q rest (a.put o.dst (.slice (some ⟨w.heap.size, 0, none⟩) 0 N)) w') : wpList Try.prog ops Q (o :: rest) a w := by
  obtain ⟨i0, hi, hz0, hz1, hz2⟩ := info_parts info_pm
  refine wpList_make_own w hgd l c 27 ho w.heap.size 54 i0 (.agg #[.int .i64 0, .int .i64 0, .slice none 0 0]) 3 Try.underlying27 hi hz0 hz1 .i64 .i64 (N : Int) N hl hc rfl (by rw [hz2]; omega) (by unfold maxLen; omega) (Nat.le_refl _) ?_
  intro w1 hown hgrow
  exact h w1 ⟨PMOk.nil, hown⟩ ((Below.refl _ _).grown hgrow (Nat.le_refl _) (fun _ h => by cases h))
end
end Go.Proofs.Ytmnahnmkffndlaa
