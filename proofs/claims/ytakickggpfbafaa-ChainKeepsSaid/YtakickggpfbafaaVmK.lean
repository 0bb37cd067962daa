/- Versions whose pages lie in rows of their own: small words; append of versions with what stays. -/
import Derived.Test.YtakickggpfbafaaChR
import Derived.Test.YtakickggpfbafaaOthI
import Derived.OwnWalk
namespace Go.Proofs.Ytakickggpfbafaa
open Go.RowKit
set_option linter.unusedVariables false
set_option linter.unusedSimpArgs false
/-- Rows of type T are as they were. -/
def KpT (T : TypeId) (w w' : World) : Prop := ∀ (i : Nat) (cur : Array Value), w.heap[i]? = some (.cells cur T (0, 0)) → w'.heap[i]? = w.heap[i]?
theorem KpT.refl (T : TypeId) (w : World) : KpT T w w := fun _ _ _ => rfl
theorem KpT.trans {T : TypeId} {a b c : World} (h : KpT T a b) (k : KpT T b c) : KpT T a c := fun i cur hi => by
  have h1 := h i cur hi
  rw [k i cur (h1.trans hi), h1]
theorem KpT.below {T : TypeId} {w w' : World} (h : Below w.heap.size w w') : KpT T w w' := fun i cur hi => h.block i (Array.getElem?_eq_some_iff.1 hi).1
/-- One row of another type alone has turned. -/
theorem KpT.grown {T T' : TypeId} (hT : T ≠ T') {w w' : World} {v : Value} {B size n : Nat} {xs : List Value} (ho : w.ownsRow B T' size v n xs) (hg : w.grownBy w' v.ownBlock) : KpT T w w' := fun i cur hi => by
  refine hg.block i (Array.getElem?_eq_some_iff.1 hi).1 (fun e => ?_)
  rcases ho.2 with ⟨rfl, _⟩ | ⟨g, cap, cur', rfl, _, hgb, _⟩
  · cases e
  · simp only [Value.ownBlock, Option.some.injEq] at e
    subst e
    rw [hgb] at hi
    simp only [Option.some.injEq, Obj.cells.injEq] at hi
    exact hT hi.2.1.symm
theorem KpT.row {T T' : TypeId} (hT : T ≠ T') {g : Nat} {w w' : World} {cu : Array Value} (hg : w.heap[g]? = some (.cells cu T' (0, 0))) (h : Oth g w w') : KpT T w w' := fun i cur hi => by
  refine h.2 i (fun e => ?_)
  subst e
  rw [hg] at hi
  simp only [Option.some.injEq, Obj.cells.injEq] at hi
  exact hT hi.2.1.symm
theorem ne_int_vs : 3 ≠ 33 := by decide
theorem OwnI.kpt {B : Nat} {L : List Int} {v : Value} {w w' : World} (h : OwnI B L v w) (hk : KpT 3 w w') : OwnI B L v w' := by
  obtain ⟨hy, h1, h2⟩ := h
  refine ⟨hy, h1, ?_⟩
  rcases h2 with h2 | ⟨g, cap, cur, rfl, hb', hg, r⟩
  · exact .inl h2
  · exact .inr ⟨g, cap, cur, rfl, hb', (hk g cur hg).trans hg, r⟩
theorem OwnVs.kpt {B : Nat} {L : List Vs} {v : Value} {w w' : World} (h : OwnVs B L v w) (hk : KpT 33 w w') : OwnVs B L v w' := by
  obtain ⟨hy, h1, h2⟩ := h
  refine ⟨hy, h1, ?_⟩
  rcases h2 with h2 | ⟨g, cap, cur, rfl, hb', hg, r⟩
  · exact .inl h2
  · exact .inr ⟨g, cap, cur, rfl, hb', (hk g cur hg).trans hg, r⟩
/-- A version as numbers. -/
structure Vn where
  n : Int
  r : Int
  k : Int
  p : List Int
def Vn.z : Vn := ⟨0, 0, 0, []⟩
def Vn.vs (x : Vn) : Vs := ⟨x.n, x.r, x.k, .slice none 0 0⟩
/-- The versions M stand for the versions L; their pages lie in rows from block B on. -/
def VmAt (B : Nat) : List Vs → List Vn → World → Prop
  | [], [], _ => True
  | m :: M, p :: L, w => (m.n = p.n ∧ m.r = p.r ∧ m.k = p.k ∧ OwnI B p.p m.s w) ∧ VmAt B M L w
  | _, _, _ => False
theorem VmAt.len {B : Nat} : ∀ {M : List Vs} {L : List Vn} {w : World}, VmAt B M L w → M.length = L.length
  | [], [], _, _ => rfl
  | m :: M, p :: L, w, h => by simp [h.2.len]
  | [], p :: L, w, h => h.elim
  | m :: M, [], w, h => h.elim
theorem VmAt.kpt {B : Nat} : ∀ {M : List Vs} {L : List Vn} {w w' : World}, VmAt B M L w → KpT 3 w w' → VmAt B M L w'
  | [], [], _, _, _, _ => trivial
  | m :: M, p :: L, w, w', h, hk => ⟨⟨h.1.1, h.1.2.1, h.1.2.2.1, h.1.2.2.2.kpt hk⟩, h.2.kpt hk⟩
  | [], p :: L, w, _, h, _ => h.elim
  | m :: M, [], w, _, h, _ => h.elim
theorem VmAt.mono {B B' : Nat} (hB : B' ≤ B) : ∀ {M : List Vs} {L : List Vn} {w : World}, VmAt B M L w → VmAt B' M L w
  | [], [], _, _ => trivial
  | m :: M, p :: L, w, h => ⟨⟨h.1.1, h.1.2.1, h.1.2.2.1, h.1.2.2.2.mono hB⟩, h.2.mono hB⟩
  | [], p :: L, w, h => h.elim
  | m :: M, [], w, h => h.elim
theorem VmAt.app {B : Nat} : ∀ {M : List Vs} {L : List Vn} {N : List Vs} {K : List Vn} {w : World}, VmAt B M L w → VmAt B N K w → VmAt B (M ++ N) (L ++ K) w
  | [], [], _, _, _, _, h => h
  | m :: M, p :: L, _, _, w, h, k => ⟨h.1, h.2.app k⟩
  | [], p :: L, _, _, w, h, _ => h.elim
  | m :: M, [], _, _, w, h, _ => h.elim
theorem VmAt.take {B : Nat} : ∀ {M : List Vs} {L : List Vn} {w : World} (k : Nat), VmAt B M L w → VmAt B (M.take k) (L.take k) w
  | [], [], _, 0, _ => trivial
  | [], [], _, k + 1, _ => trivial
  | m :: M, p :: L, w, 0, h => trivial
  | m :: M, p :: L, w, k + 1, h => ⟨h.1, h.2.take k⟩
  | [], p :: L, w, _, h => h.elim
  | m :: M, [], w, _, h => h.elim
theorem VmAt.drop {B : Nat} : ∀ {M : List Vs} {L : List Vn} {w : World} (k : Nat), VmAt B M L w → VmAt B (M.drop k) (L.drop k) w
  | [], [], _, 0, _ => trivial
  | [], [], _, k + 1, _ => trivial
  | m :: M, p :: L, w, 0, h => h
  | m :: M, p :: L, w, k + 1, h => h.2.drop k
  | [], p :: L, w, _, h => h.elim
  | m :: M, [], w, _, h => h.elim
theorem VmAt.at_ {B : Nat} : ∀ {M : List Vs} {L : List Vn} {w : World} {j : Nat}, VmAt B M L w → j < L.length → (M.getD j Vs.z).n = (L.getD j Vn.z).n ∧ (M.getD j Vs.z).r = (L.getD j Vn.z).r ∧ (M.getD j Vs.z).k = (L.getD j Vn.z).k ∧ OwnI B (L.getD j Vn.z).p (M.getD j Vs.z).s w
  | [], [], _, j, _, h => by simp at h
  | m :: M, p :: L, w, 0, h, _ => h.1
  | m :: M, p :: L, w, j + 1, h, hj => by
    have := h.2.at_ (j := j) (by simp at hj; omega)
    simpa [List.getD] using this
  | [], p :: L, w, _, h, _ => h.elim
  | m :: M, [], w, _, h, _ => h.elim
theorem VmAt.snoc {B : Nat} {M : List Vs} {L : List Vn} {w : World} (h : VmAt B M L w) {m : Vs} {p : Vn} (h1 : m.n = p.n ∧ m.r = p.r ∧ m.k = p.k ∧ OwnI B p.p m.s w) : VmAt B (M ++ [m]) (L ++ [p]) w := h.app ⟨h1, trivial⟩
theorem VmAt.set {B : Nat} {m : Vs} {p : Vn} : ∀ {M : List Vs} {L : List Vn} {w : World} (j : Nat), VmAt B M L w → (m.n = p.n ∧ m.r = p.r ∧ m.k = p.k ∧ OwnI B p.p m.s w) → VmAt B (M.set j m) (L.set j p) w
  | [], [], _, _, _, _ => trivial
  | x :: M, y :: L, w, 0, h, k => ⟨k, h.2⟩
  | x :: M, y :: L, w, j + 1, h, k => ⟨h.1, h.2.set j k⟩
  | [], y :: L, w, _, h, _ => h.elim
  | x :: M, [], w, _, h, _ => h.elim
theorem VmAt.below {B : Nat} {M : List Vs} {L : List Vn} {w w' : World} (h : VmAt B M L w) (hb : Below w.heap.size w w') : VmAt B M L w' := h.kpt (KpT.below hb)
def bareV (x : Vs) : Vs := ⟨x.n, x.r, x.k, .slice none 0 0⟩
theorem bareV_at (M : List Vs) (i : Nat) : (M.map bareV).getD i Vs.z = bareV (M.getD i Vs.z) := by
  simp only [List.getD_eq_getElem?_getD, List.getElem?_map]
  cases M[i]? <;> rfl
theorem errC_bare (M : List Vs) (i : Nat) : errC (M.map bareV) i = errC M i := by
  unfold errC
  rw [bareV_at, bareV_at]
  rfl
theorem valCF_bare (M : List Vs) : ∀ (f i : Nat), valCF (M.map bareV) i f = valCF M i f
  | 0, _ => rfl
  | f + 1, i => by
    unfold valCF
    rw [errC_bare, valCF_bare M f]
theorem valC_bare (M : List Vs) : valC (M.map bareV) = valC M := by
  unfold valC
  rw [valCF_bare, List.length_map]
theorem fndF_bare (c : Int) : ∀ (M : List Vs) (i : Nat), fndF c (M.map bareV) i = fndF c M i
  | [], _ => rfl
  | x :: M, i => by
    show (if hldC x.n x.r c = true then some i else fndF c (M.map bareV) (i + 1)) = (if hldC x.n x.r c = true then some i else fndF c M (i + 1))
    rw [fndF_bare c M]
def valV (L : List Vn) : Int := valC (L.map Vn.vs)
def fndV (L : List Vn) (c : Int) : Option Nat := fndC (L.map Vn.vs) c
theorem VmAt.bare {B : Nat} : ∀ {M : List Vs} {L : List Vn} {w : World}, VmAt B M L w → M.map bareV = L.map Vn.vs
  | [], [], _, _ => rfl
  | x :: M, y :: L, w, h => by
    obtain ⟨h1, h2, h3, -⟩ := h.1
    simp only [List.map_cons, h.2.bare, bareV, Vn.vs, h1, h2, h3]
  | [], y :: L, w, h => h.elim
  | x :: M, [], w, h => h.elim
theorem VmAt.val {B : Nat} {M : List Vs} {L : List Vn} {w : World} (h : VmAt B M L w) : valC M = valV L := by
  unfold valV
  rw [← h.bare, valC_bare]
theorem VmAt.fnd {B : Nat} {M : List Vs} {L : List Vn} {w : World} (h : VmAt B M L w) (c : Int) : fndC M c = fndV L c := by
  unfold fndV
  rw [← h.bare]
  exact (fndF_bare c M 0).symm
theorem vn_at (L : List Vn) (i : Nat) : (L.map Vn.vs).getD i Vs.z = (L.getD i Vn.z).vs := by
  simp only [List.getD_eq_getElem?_getD, List.getElem?_map]
  cases L[i]? <;> rfl
section
variable {w : World}
/-- append, onto versions of the call's own: rows of other types stay. -/
theorem wp_appVsk {ops : Array Oper} {rest : List Oper} {o : Oper} {a : Act} {Q : Exit → Act → World → Prop} (hgd : o.guard = none) (s x : Operand) (tx : TypeId)
    (ho : o.op = .call { callee := .builtin .append, args := #[s, x], argTypes := #[22, tx] }) (B : Nat) (L M : List Vs) (v u : Value) (hs : a.eval s = v) (hx : a.eval x = u)
    (hown : OwnVs B L v w) (hsrc : FromVs M tx u w) (hB : B ≤ w.heap.size) (hn : L.length + M.length ≤ 1099511627776)
    (h : ∀ v' w', OwnVs B (L ++ M) v' w' → Below B w w' → (∀ T, T ≠ 33 → KpT T w w') → wpList Try.prog ops Q rest (a.put o.dst v') w') : wpList Try.prog ops Q (o :: rest) a w := by
  obtain ⟨i0, hi, hz0, hz1, hz2⟩ := info_parts info_vs
  refine wpList_own_src w hgd s x 22 tx ho B 33 i0 (.agg #[.int .i64 0, .int .i64 0, .int .i64 0, .slice none 0 0]) 4 48 Try.underlying22 hi hz0 hz1 hz2 rfl (by decide) v L.length (cellsVs L) hs hown.2 u M.length (cellsVs M) hx hsrc.2 (by unfold maxLen; omega) (by omega) hB ?_
  intro v' w' h1 h2
  refine h v' w' ⟨hown.1.app hsrc.1, ?_⟩ ((Below.refl _ _).grown h2 hB (fun k hk => (World.ownsRow.lt hown.2 k hk).1)) (fun T hT => KpT.grown hT hown.2 h2)
  rw [List.length_append, cellsVs_app]
  exact h1
end
theorem step_appVsk {w : World} {ops : Array Oper} {o : Oper} {a : Act} {K : Act → World → Prop} {Q : Exit → Act → World → Prop} {E : Prop} (hgd : o.guard = none) (s x : Operand) (tx : TypeId)
    (ho : o.op = .call { callee := .builtin .append, args := #[s, x], argTypes := #[22, tx] }) (B : Nat) (L M : List Vs) (v u : Value) (hs : a.eval s = v) (hx : a.eval x = u)
    (hown : OwnVs B L v w) (hsrc : FromVs M tx u w) (hB : B ≤ w.heap.size) (hn : L.length + M.length ≤ 1099511627776)
    (h : ∀ v' w', OwnVs B (L ++ M) v' w' → Below B w w' → (∀ T, T ≠ 33 → KpT T w w') → K (a.put o.dst v') w') : if Region.wanted o (yielded ops a.tmps) = true then Oper.wp Try.prog o a w K Q else E := by
  have hw : Region.wanted o (yielded ops a.tmps) = true := by simp [Region.wanted, hgd]
  rw [if_pos hw]
  obtain ⟨i0, hi, hz0, hz1, hz2⟩ := info_parts info_vs
  obtain ⟨v', w', hr, h1, h2⟩ := run_own_src (P := Try.prog) w B 22 tx o.type 33 i0 (.agg #[.int .i64 0, .int .i64 0, .int .i64 0, .slice none 0 0]) 4 48 Try.underlying22 hi hz0 hz1 hz2 rfl (by decide) v L.length (cellsVs L) hown.2 u M.length (cellsVs M) hsrc.2 (by unfold maxLen; omega) (by omega) hB
  unfold Oper.wp execOp
  simp only [ho, resolve, invoke, builtin, Sem.run_bind, Sem.run_pure, Result.andThen_ok, List.map_toArray, List.map_cons, List.map_nil, hs, hx, hr]
  refine h v' w' ⟨hown.1.app hsrc.1, ?_⟩ ((Below.refl _ _).grown h2 hB (fun k hk => (World.ownsRow.lt hown.2 k hk).1)) (fun T hT => KpT.grown hT hown.2 h2)
  rw [List.length_append, cellsVs_app]
  exact h1
end Go.Proofs.Ytakickggpfbafaa
