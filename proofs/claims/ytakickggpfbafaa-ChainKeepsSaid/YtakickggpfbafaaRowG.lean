/- A block that holds a row of cells: loads and stores of its parts. -/
import Derived.Test.YtakickggpfbafaaRegQ
import Derived.Test.YtakickggpfbafaaOthI
import Derived.Test.YtakickggpfbafaaBel
import Derived.Deep.MidRow
import Derived.Laws.Rows
import Derived.Laws.CopyOwn
import Derived.Laws.ResultCell
namespace Go.Proofs.Ytakickggpfbafaa
open Go.RowKit
set_option linter.unusedVariables false
set_option linter.unusedSimpArgs false
/-- Block g holds these cells, all of them open. -/
def RowAt (g : Nat) (A : Array Value) (w : World) : Prop := ∃ t, w.heap[g]? = some (.cells A t (0, 0))
theorem RowAt.keep {g : Nat} {A : Array Value} {w w' : World} (h : RowAt g A w) (hb : w'.heap[g]? = w.heap[g]?) : RowAt g A w' := h.elim fun t ht => ⟨t, hb.trans ht⟩
theorem RowAt.lt {g : Nat} {A : Array Value} {w : World} (h : RowAt g A w) : g < w.heap.size := h.elim fun _ ht => (Array.getElem?_eq_some_iff.1 ht).1
theorem RowAt.below {g B : Nat} {A : Array Value} {w w' : World} (h : RowAt g A w) (hb : Below B w w') (hg : g < B) : RowAt g A w' := h.keep (hb.block g hg)
theorem RowAt.go {g : Nat} {A : Array Value} {w w' : World} (h : RowAt g A w) (hb : Below w.heap.size w w') : RowAt g A w' := h.below hb h.lt
theorem RowAt.oth {g k : Nat} {A : Array Value} {w w' : World} (h : RowAt g A w) (ho : Oth k w w') (hg : g ≠ k) : RowAt g A w' := h.keep (ho.2 g hg)
theorem RowAt.new (w : World) (A : Array Value) (t : TypeId) : RowAt w.heap.size A (w.alloc (.cells A t)) := ⟨t, heap_alloc_new w _⟩
theorem RowAt.new1 (w : World) (o : Obj) (A : Array Value) (t : TypeId) : RowAt (w.heap.size + 1) A ((w.alloc o).alloc (.cells A t)) := ⟨t, by have := heap_alloc_new (w.alloc o) (.cells A t); simpa using this⟩
theorem RowAt.new2 (w : World) (o o' : Obj) (A : Array Value) (t : TypeId) : RowAt (w.heap.size + 1 + 1) A (((w.alloc o).alloc o').alloc (.cells A t)) := ⟨t, by have := heap_alloc_new ((w.alloc o).alloc o') (.cells A t); simpa using this⟩
theorem RowAt.al {g : Nat} {A : Array Value} {w : World} (h : RowAt g A w) (o : Obj) : RowAt g A (w.alloc o) := h.go (b1 o)
theorem RowAt.drew {g : Nat} {A : Array Value} {w : World} (h : RowAt g A w) : RowAt g A w.drew := h
theorem RowAt.cell {g : Nat} {A : Array Value} {w : World} (h : RowAt g A w) {j : Nat} {v : Value} (hj : A[j]? = some v) : w.cell? ⟨g, j, none⟩ = some v := by
  obtain ⟨t, ht⟩ := h
  rw [cell_of_row w g j A t _ ht, hj]
theorem RowAt.open_ {g : Nat} {A : Array Value} {w : World} (h : RowAt g A w) (j : Nat) : w.frozen? ⟨g, j, none⟩ = false := by
  obtain ⟨t, ht⟩ := h
  exact frozen_of_row w g j A t ht
theorem RowAt.set1 {g : Nat} {A : Array Value} {w : World} (h : RowAt g A w) (j : Nat) (v : Value) : RowAt g (A.setIfInBounds j v) (w.setCell ⟨g, j, none⟩ v) := by
  obtain ⟨t, ht⟩ := h
  exact ⟨t, heap_setCell_same w g j A t v ht⟩
theorem oth_cell (g j : Nat) (w : World) (v : Value) : Oth g w (w.setCell ⟨g, j, none⟩ v) := ⟨(Below.refl g w).setCell (p := ⟨g, j, none⟩) (Nat.le_refl _) _, fun b hb => Below.heap_setCell w ⟨g, j, none⟩ v b hb⟩
/-- Cells put one behind the other. -/
def putAt (A : Array Value) (off : Nat) : List Value → Array Value
  | [] => A
  | v :: vs => putAt (A.setIfInBounds off v) (off + 1) vs
theorem RowAt.sets {g : Nat} : ∀ (vs : List Value) (off : Nat) (A : Array Value) (w : World), RowAt g A w → RowAt g (putAt A off vs) (w.setCells g off vs) ∧ Oth g w (w.setCells g off vs)
  | [], off, A, w, h => ⟨h, ⟨Below.refl _ _, fun _ _ => rfl⟩⟩
  | v :: vs, off, A, w, h => by
    have h1 := h.set1 off v
    obtain ⟨h2, h3⟩ := RowAt.sets vs (off + 1) _ _ h1
    have h0 := oth_cell g off w v
    exact ⟨h2, ⟨h0.1.trans h3.1, fun b hb => (h3.2 b hb).trans (h0.2 b hb)⟩⟩
theorem Oth.trans {g : Nat} {a b c : World} (h : Oth g a b) (k : Oth g b c) : Oth g a c := ⟨h.1.trans k.1, fun i hi => (k.2 i hi).trans (h.2 i hi)⟩
theorem RowAt.range {g : Nat} {A : Array Value} {w : World} (h : RowAt g A w) (off : Nat) {B : Array Value} (hB : A.extract off (off + B.size) = B) : w.rangeAt g off B.toList := by
  obtain ⟨t, ht⟩ := h
  have := World.rangeAt_of_block ht off B.size
  rw [hB] at this
  exact this
theorem RowAt.there {g : Nat} {A : Array Value} {w : World} (h : RowAt g A w) {off n : Nat} (hn : off + n ≤ A.size) : w.there g off n := fun j hj => by
  refine ⟨?_, h.open_ _⟩
  rw [h.cell (v := A[off + j]'(by omega)) (by simp)]
  rfl
section
variable {P : Program} {ops : Array Oper} {rest : List Oper} {o : Oper} {a : Act} {w : World} {Q : Exit → Act → World → Prop}
/-- An operation under a guard, p being what the guard says. -/
theorem wpList_if {p : Bool} {v : Value} (hw : Region.wanted o (yielded ops a.tmps) = p) (hv : p = true → (execOp a.eval o).run P w = .ok (.value v) w) (h : wpList P ops Q rest (a.put o.dst (if p = true then v else undef)) w) : wpList P ops Q (o :: rest) a w := by
  refine wpList_step fun K hK => ?_
  rw [hw]
  cases p
  · exact hK _ _ (by simpa using h)
  · rw [if_pos rfl]
    unfold Oper.wp
    rw [hv rfl]
    exact hK _ _ (by simpa using h)
theorem wpList_do {v : Value} (hg : o.guard = none) (hv : (execOp a.eval o).run P w = .ok (.value v) w) (h : wpList P ops Q rest (a.put o.dst v) w) : wpList P ops Q (o :: rest) a w :=
  wpList_if (p := true) (by unfold Region.wanted; rw [hg]) (fun _ => hv) (by simpa using h)
theorem run_part {T : TypeId} {p : Operand} (ho : o.op = .load T p) {g off : Nat} (hp : a.eval p = .pointer (some ⟨g, off, none⟩)) {A B : Array Value} (h : RowAt g A w) {d : TypeDesc} (hu : P.underlying T = some d) (hd : d.isRow = true) (hi : (P.info? T).map (·.size) = some B.size) (hB : A.extract off (off + B.size) = B) :
    (execOp a.eval o).run P w = .ok (.value (.agg B)) w := by
  unfold execOp
  simp only [ho, hp, run_loadAt_mid w g off T B.toList d (h.range off hB) hu hd (by simpa using hi), Sem.run_bind, Sem.run_pure, Result.andThen_ok]
theorem run_cell {T : TypeId} {p : Operand} (ho : o.op = .load T p) {g off : Nat} (hp : a.eval p = .pointer (some ⟨g, off, none⟩)) {A : Array Value} {v : Value} (h : RowAt g A w) {d : TypeDesc} (hu : P.underlying T = some d) (hd : d.isRow = false) (hv : A[off]? = some v) :
    (execOp a.eval o).run P w = .ok (.value v) w := by
  unfold execOp
  have hc := h.cell hv
  have hagg : (isAgg T).run P w = .ok false w := by
    unfold isAgg
    rw [Sem.run_bind, run_underlying hu w]
    cases d <;> simp_all
  simp only [ho, hp, Instr.loadAt, Instr.sureAddr, Sem.run_bind, Sem.run_pure, Result.andThen_ok, loadVar, hagg]
  simp [hc]
theorem run_put {T : TypeId} {p y : Operand} (ho : o.op = .store T p y) {g off : Nat} (hp : a.eval p = .pointer (some ⟨g, off, none⟩)) {A B : Array Value} (h : RowAt g A w) (hy : a.eval y = .agg B) (hi : (P.info? T).map (·.size) = some B.size) (h1 : B.all (·.oneCell') = true) (hn : off + B.size ≤ A.size) :
    (execOp a.eval o).run P w = .ok .skip (w.setCells g off B.toList) := by
  unfold execOp
  simp only [ho, hp, hy, run_storeAt_mid w g off T B (h.there hn) hi h1, Sem.run_bind, Sem.run_pure, Result.andThen_ok]
theorem wp_part {T : TypeId} {p : Operand} (hgd : o.guard = none) (ho : o.op = .load T p) {g off : Nat} (hp : a.eval p = .pointer (some ⟨g, off, none⟩)) {A B : Array Value} (h : RowAt g A w) {d : TypeDesc} (hu : P.underlying T = some d) (hd : d.isRow = true) (hi : (P.info? T).map (·.size) = some B.size) (hB : A.extract off (off + B.size) = B)
    (hK : wpList P ops Q rest (a.put o.dst (.agg B)) w) : wpList P ops Q (o :: rest) a w := wpList_do hgd (run_part ho hp h hu hd hi hB) hK
theorem wp_cell {T : TypeId} {p : Operand} (hgd : o.guard = none) (ho : o.op = .load T p) {g off : Nat} (hp : a.eval p = .pointer (some ⟨g, off, none⟩)) {A : Array Value} {v : Value} (h : RowAt g A w) {d : TypeDesc} (hu : P.underlying T = some d) (hd : d.isRow = false) (hv : A[off]? = some v)
    (hK : wpList P ops Q rest (a.put o.dst v) w) : wpList P ops Q (o :: rest) a w := wpList_do hgd (run_cell ho hp h hu hd hv) hK
theorem wp_put {T : TypeId} {p y : Operand} (hgd : o.guard = none) (ho : o.op = .store T p y) {g off : Nat} (hp : a.eval p = .pointer (some ⟨g, off, none⟩)) {A B A' : Array Value} (h : RowAt g A w) (hy : a.eval y = .agg B) (hi : (P.info? T).map (·.size) = some B.size) (h1 : B.all (·.oneCell') = true) (hn : off + B.size ≤ A.size) (hA : putAt A off B.toList = A')
    (hK : ∀ w', RowAt g A' w' → Oth g w w' → wpList P ops Q rest (a.put o.dst undef) w') : wpList P ops Q (o :: rest) a w := by
  refine wpList_plain hgd fun K hK' => ?_
  unfold Oper.wp
  rw [run_put ho hp h hy hi h1 hn]
  obtain ⟨h2, h3⟩ := RowAt.sets B.toList off A w h
  exact hK' _ _ (hK _ (hA ▸ h2) h3)
/-- .. where it alone may come up. -/
theorem wpAnyH_put1 {md : Region.Mode} {S : World → Prop} {i fuel : Nat} {listed : Array Bool} {T : TypeId} {p y : Operand} (hr : Region.ready md ops listed = [i]) (hi : ops[i]? = some o) (hgd : o.guard = none) (hdn : o.dst = none) (ho : o.op = .store T p y) {g off : Nat} (hp : a.eval p = .pointer (some ⟨g, off, none⟩)) {A B A' : Array Value} (h : RowAt g A w) (hy : a.eval y = .agg B) (hs : (P.info? T).map (·.size) = some B.size) (h1 : B.all (·.oneCell') = true) (hn : off + B.size ≤ A.size) (hA : putAt A off B.toList = A')
    (hS : ∀ w', Oth g w w' → S w') (hK : ∀ w', RowAt g A' w' → Oth g w w' → wpAnyH P md ops Q S fuel (listed.setIfInBounds i true) a w') : wpAnyH P md ops Q S (fuel + 1) listed a w := by
  refine wpAnyH_ready hr (by simp) (AllReadyH.cons hi (fun K' hK' => ?_) AllReadyH.nil)
  rw [if_pos (by unfold Region.wanted; rw [hgd])]
  unfold Oper.wp
  rw [run_put ho hp h hy hs h1 hn]
  obtain ⟨h2, h3⟩ := RowAt.sets B.toList off A w h
  have := hK'.out _ _ (hS _ h3) (fun _ => hK _ (hA ▸ h2) h3)
  show K' (a.put o.dst undef) _
  rw [hdn]
  exact this
/-- A function that hands a row back. -/
theorem ret_row {fn : Func} {R : Ending → World → Prop} {p : Tmp} {T : TypeId} (h : fn.results = #[.cell p T]) {g : Nat} {A : Array Value} (hp : a.tmps.getD p undef = .pointer (some ⟨g, 0, none⟩)) (hd : a.defers = []) (hc : RowAt g A w) {d : TypeDesc} (hu : P.underlying T = some d) (hr : d.isRow = true) (hi : (P.info? T).map (·.size) = some A.size) (hR : R (.returned (.agg A)) w) : bodyPost P fn R .ret a w := by
  obtain ⟨t, ht⟩ := hc
  exact bodyPost_ret (results_cell_row h a.tmps w g t A (0, 0) _ hp ht hu (by cases d <;> simp_all) hi) hd hR
theorem ret_row2 {fn : Func} {R : Ending → World → Prop} {p u : Tmp} {T : TypeId} (h : fn.results = #[.cell p T, .tmp u]) {g : Nat} {A : Array Value} {x : Value} (hp : a.tmps.getD p undef = .pointer (some ⟨g, 0, none⟩)) (hx : a.tmps.getD u undef = x) (hd : a.defers = []) (hc : RowAt g A w) {d : TypeDesc} (hu : P.underlying T = some d) (hr : d.isRow = true) (hi : (P.info? T).map (·.size) = some A.size) (hR : R (.returned (.tuple #[.agg A, x])) w) : bodyPost P fn R .ret a w := by
  obtain ⟨t, ht⟩ := hc
  refine bodyPost_ret (v := .tuple #[.agg A, x]) ?_ hd hR
  have hl := run_loadVar_row (P := P) w g t T A (0, 0) d ht hu (by cases d <;> simp_all) hi
  rw [results_cell_tmp h, hp, hx]
  simp only [asAddr, Sem.run_pure, Result.andThen_ok, hl]
theorem run_pkT {c x : Operand} {p : Bool} (ho : o.op = .pick c (.const (.bool true)) x) (hc : a.eval c = .bool p) (hp : p = true) : (execOp a.eval o).run P w = .ok (.value (.bool true)) w := by
  subst hp
  unfold execOp
  simp only [ho, hc]
  go_simp
theorem run_pkF {c : Operand} {x : Nat} {u : Value} (ho : o.op = .pick c (.const (.bool true)) (.tmp x)) (hc : a.eval c = .bool false) (hx : a.eval (.tmp x) = u) : (execOp a.eval o).run P w = .ok (.value u) w := by
  have h' : a.tmps[x]?.getD undef = u := by rw [← hx]; simp [Act.eval]
  clear hx
  unfold execOp
  simp only [ho, hc]
  go_simp
theorem run_call1 {f : FuncId} (hf : ∀ args w, (callFunc f args).run P w = .ok (.enter f args) w) {x : Nat} {v : Value} {ts : Array TypeId} (ho : o.op = .call { callee := .value (.func f), args := #[.tmp x], argTypes := ts }) (hx : a.eval (.tmp x) = v) : (execOp a.eval o).run P w = .ok (.enter f #[v]) w := by
  have h' : a.tmps[x]?.getD undef = v := by rw [← hx]; simp [Act.eval]
  clear hx
  unfold execOp
  simp only [ho]
  go_simp
theorem run_call2 {f : FuncId} (hf : ∀ args w, (callFunc f args).run P w = .ok (.enter f args) w) {x y : Nat} {v u : Value} {ts : Array TypeId} (ho : o.op = .call { callee := .value (.func f), args := #[.tmp x, .tmp y], argTypes := ts }) (hx : a.eval (.tmp x) = v) (hy : a.eval (.tmp y) = u) : (execOp a.eval o).run P w = .ok (.enter f #[v, u]) w := by
  have h' : a.tmps[x]?.getD undef = v := by rw [← hx]; simp [Act.eval]
  have h2' : a.tmps[y]?.getD undef = u := by rw [← hy]; simp [Act.eval]
  clear hx hy
  unfold execOp
  simp only [ho]
  go_simp
theorem run_call0 {f : FuncId} (hf : ∀ args w, (callFunc f args).run P w = .ok (.enter f args) w) {ts : Array TypeId} (ho : o.op = .call { callee := .value (.func f), args := #[], argTypes := ts }) : (execOp a.eval o).run P w = .ok (.enter f #[]) w := by
  unfold execOp
  simp only [ho]
  go_simp
theorem all_one {A : Array Value} (h : A.toList.all (·.oneCell') = true) : A.all (·.oneCell') = true := by rw [← Array.all_toList]; exact h
theorem wpAnyH_gen {md : Region.Mode} {S : World → Prop} {fuel : Nat} {listed : Array Bool} (F : Act → Prop) (h : F a) (H : ∀ a, F a → wpAnyH P md ops Q S fuel listed a w) : wpAnyH P md ops Q S fuel listed a w := H a h
/-- One of a drawn region, taken first. -/
theorem takeH {md : Region.Mode} {S : World → Prop} {i d fuel : Nat} {v : Value} {listed : Array Bool} (hi : ops[i]? = some o) (hs : Region.noSelect ops = true) (hf : Region.free md ops listed i = true) (hr : (Region.ready md ops listed).contains i = true) (hd : o.dst = some d) (hz : d < a.tmps.size)
    (hQ : ∀ c a w, Q (.panic c) (a.put o.dst v) w → Q (.panic c) a w) (hg : o.guard = none) (hy : ∀ w, S w → (execOp a.eval o).run P w = .ok (.value v) w) (hS : S w)
    (h : ∀ b : Act, (b.tmps.size = a.tmps.size ∧ b.defers = a.defers) → (∀ x, d ≠ x → b.eval (.tmp x) = a.eval (.tmp x)) → b.eval (.tmp d) = v → wpAnyH P md ops Q S fuel (listed.setIfInBounds i true) b w) : wpAnyH P md ops Q S (fuel + 1) listed a w := by
  refine wpAnyH_take hi hs hf hr hQ (Or.inl ⟨by unfold Region.wanted; rw [hg], hy⟩) hS ?_
  rw [hd]
  exact h _ ⟨size_put, rfl⟩ (fun x hx => eval_put_ne hx) (eval_put_eq hz)
/-- One operation under a guard, the frame behind it by what it shows. -/
theorem step_if {p : Bool} {v : Value} {d : Nat} (hd : o.dst = some d) (hz : d < a.tmps.size) (hw : Region.wanted o (yielded ops a.tmps) = p) (hv : p = true → (execOp a.eval o).run P w = .ok (.value v) w)
    (h : ∀ b : Act, (b.tmps.size = a.tmps.size ∧ b.defers = a.defers) → (∀ x, d ≠ x → b.eval (.tmp x) = a.eval (.tmp x)) → b.eval (.tmp d) = (if p = true then v else undef) → wpList P ops Q rest b w) : wpList P ops Q (o :: rest) a w := by
  refine wpList_if hw hv ?_
  rw [hd]
  exact h _ ⟨size_put, rfl⟩ (fun x hx => eval_put_ne hx) (eval_put_eq hz)
theorem step_do {v : Value} {d : Nat} (hg : o.guard = none) (hd : o.dst = some d) (hz : d < a.tmps.size) (hv : (execOp a.eval o).run P w = .ok (.value v) w)
    (h : ∀ b : Act, (b.tmps.size = a.tmps.size ∧ b.defers = a.defers) → (∀ x, d ≠ x → b.eval (.tmp x) = a.eval (.tmp x)) → b.eval (.tmp d) = v → wpList P ops Q rest b w) : wpList P ops Q (o :: rest) a w :=
  step_if (p := true) hd hz (by unfold Region.wanted; rw [hg]) (fun _ => hv) (fun b h1 h2 h3 => h b h1 h2 (by simpa using h3))
theorem run_mv {x : Operand} {v : Value} (ho : o.op = .move x) (hx : a.eval x = v) : (execOp a.eval o).run P w = .ok (.value v) w := by
  unfold execOp
  simp only [ho, hx, Sem.run_pure]
theorem run_as {x : Operand} {v : Value} (ho : o.op = .assign x) (hx : a.eval x = v) : (execOp a.eval o).run P w = .ok (.value v) w := by
  unfold execOp
  simp only [ho, hx, Sem.run_pure]
theorem run_pk {c x : Operand} {p q : Bool} (ho : o.op = .pick c x (.const (.bool false))) (hc : a.eval c = .bool p) (hx : a.eval x = if p = true then .bool q else undef) : (execOp a.eval o).run P w = .ok (.value (.bool (p && q))) w := by
  unfold execOp
  simp only [ho, hc, hx]
  cases p <;> go_simp
/-- A store of a whole row. -/
theorem wp_whole {T : TypeId} {p y : Operand} (hgd : o.guard = none) (ho : o.op = .store T p y) {g : Nat} (hp : a.eval p = .pointer (some ⟨g, 0, none⟩)) {A B : Array Value} (h : RowAt g A w) (hy : a.eval y = .agg B) (hi : (P.info? T).map (·.size) = some B.size) (h1 : B.all (·.oneCell') = true) (hn : B.size = A.size)
    (hK : ∀ w', RowAt g B w' → Oth g w w' → wpList P ops Q rest (a.put o.dst undef) w') : wpList P ops Q (o :: rest) a w := by
  refine wpList_plain hgd fun K hK' => ?_
  obtain ⟨t, ht⟩ := h
  unfold Oper.wp execOp
  simp only [ho, hp, hy, Instr.storeAt, Instr.sureAddr, Sem.run_bind, Sem.run_pure, Result.andThen_ok, run_storeVar_row w g t T A B ht hi hn.symm h1]
  exact hK' _ _ (hK _ ⟨t, setRow_heap w g _ _ t _ ht⟩ ⟨⟨rfl, rfl, rfl, by simp [World.setRow], fun k hk => setRow_other w g k _ (by omega)⟩, fun b hb => setRow_other w g b _ hb⟩)
end
/-- The result of a function that hands a row back. -/
theorem res_row {fn : Func} {p : Tmp} {T : TypeId} (h : fn.results = #[.cell p T]) {P : Program} (tmps : Array Value) (w : World) (g : Nat) {A : Array Value} (hp : tmps.getD p undef = .pointer (some ⟨g, 0, none⟩)) (hc : RowAt g A w) {d : TypeDesc} (hu : P.underlying T = some d) (hd : d.isRow = true) (hi : (P.info? T).map (·.size) = some A.size) :
    (results fn tmps).run P w = .ok (.agg A) w := by
  obtain ⟨t, ht⟩ := hc
  exact results_cell_row h tmps w g t A (0, 0) _ hp ht hu (by cases d <;> simp_all) hi
end Go.Proofs.Ytakickggpfbafaa
