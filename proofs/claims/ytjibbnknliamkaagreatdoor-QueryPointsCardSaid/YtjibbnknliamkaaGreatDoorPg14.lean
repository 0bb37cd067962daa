/- RowK: in one text. -/
import Derived.Test.YtjibbnknliamkaaGreatDoorPg13
import Derived.Test.YtjibbnknliamkaaGreatDoorPg07
import Derived.Test.YtjibbnknliamkaaGreatDoorPg00
import Derived.Deep.MidRow
import Derived.Laws.Rows
import Derived.Laws.CopyOwn
import Derived.Laws.ResultCell
namespace Go.Proofs.YtjibbnknliamkaaGreatDoor
open Go.RowKit
set_option linter.unusedVariables false
set_option linter.unusedSimpArgs false
/-- Block g holds these cells, all of them open. -/
def RowAt (g : Nat) (A : Array Value) (w : World) : Prop := ∃ t, w.heap[g]? = some (.cells A t (0, 0))
theorem RowAt.keep {g : Nat} {A : Array Value} {w w' : World} (h : RowAt g A w) (hb : w'.heap[g]? = w.heap[g]?) : RowAt g A w' := h.elim fun t ht => ⟨t, hb.trans ht⟩
theorem RowAt.lt {g : Nat} {A : Array Value} {w : World} (h : RowAt g A w) : g < w.heap.size := h.elim fun _ ht => (Array.getElem?_eq_some_iff.1 ht).1
theorem RowAt.below {g B : Nat} {A : Array Value} {w w' : World} (h : RowAt g A w) (hb : Below B w w') (hg : g < B) : RowAt g A w' := h.keep (hb.block g hg)
theorem RowAt.go {g : Nat} {A : Array Value} {w w' : World} (h : RowAt g A w) (hb : Below w.heap.size w w') : RowAt g A w' := h.below hb h.lt
theorem RowAt.oth {g k : Nat} {A : Array Value} {w w' : World} (h : RowAt g A w) (ho : Oth k w w') (hg : g ≠ k) : RowAt g A w' := h.keep (ho.2 g hg)
theorem RowAt.new (w : World) (A : Array Value) (t : TypeId) : RowAt w.heap.size A (w.alloc (.cells A t)) := ⟨t, heap_alloc_new w _⟩
theorem RowAt.new1 (w : World) (o : Obj) (A : Array Value) (t : TypeId) : RowAt (w.heap.size + 1) A ((w.alloc o).alloc (.cells A t)) := ⟨t, by have := heap_alloc_new (w.alloc o) (.cells A t); simpa using this⟩
theorem RowAt.new2 (w : World) (o o' : Obj) (A : Array Value) (t : TypeId) : RowAt (w.heap.size + 1 + 1) A (((w.alloc o).alloc o').alloc (.cells A t)) := ⟨t, by have := heap_alloc_new ((w.alloc o).alloc o') (.cells A t); simpa using this⟩
theorem RowAt.al {g : Nat} {A : Array Value} {w : World} (h : RowAt g A w) (o : Obj) : RowAt g A (w.alloc o) := h.go (b1 o)
theorem RowAt.drew {g : Nat} {A : Array Value} {w : World} (h : RowAt g A w) : RowAt g A w.drew := h
theorem RowAt.cell {g : Nat} {A : Array Value} {w : World} (h : RowAt g A w) {j : Nat} {v : Value} (hj : A[j]? = some v) : w.cell? ⟨g, j, none⟩ = some v := by
  obtain ⟨t, ht⟩ := h
  rw [cell_of_row w g j A t _ ht, hj]
theorem RowAt.open_ {g : Nat} {A : Array Value} {w : World} (h : RowAt g A w) (j : Nat) : w.frozen? ⟨g, j, none⟩ = false := by
  obtain ⟨t, ht⟩ := h
  exact frozen_of_row w g j A t ht
theorem RowAt.set1 {g : Nat} {A : Array Value} {w : World} (h : RowAt g A w) (j : Nat) (v : Value) : RowAt g (A.setIfInBounds j v) (w.setCell ⟨g, j, none⟩ v) := by
  obtain ⟨t, ht⟩ := h
  exact ⟨t, heap_setCell_same w g j A t v ht⟩
theorem oth_cell (g j : Nat) (w : World) (v : Value) : Oth g w (w.setCell ⟨g, j, none⟩ v) := ⟨(Below.refl g w).setCell (p := ⟨g, j, none⟩) (Nat.le_refl _) _, fun b hb => Below.heap_setCell w ⟨g, j, none⟩ v b hb⟩
/-- Cells put one behind the other. -/
def putAt (A : Array Value) (off : Nat) : List Value → Array Value
  | [] => A
  | v :: vs => putAt (A.setIfInBounds off v) (off + 1) vs
theorem RowAt.sets {g : Nat} : ∀ (vs : List Value) (off : Nat) (A : Array Value) (w : World), RowAt g A w → RowAt g (putAt A off vs) (w.setCells g off vs) ∧ Oth g w (w.setCells g off vs)
  | [], off, A, w, h => ⟨h, ⟨Below.refl _ _, fun _ _ => rfl⟩⟩
  | v :: vs, off, A, w, h => by
    have h1 := h.set1 off v
    obtain ⟨h2, h3⟩ := RowAt.sets vs (off + 1) _ _ h1
    have h0 := oth_cell g off w v
    exact ⟨h2, ⟨h0.1.trans h3.1, fun b hb => (h3.2 b hb).trans (h0.2 b hb)⟩⟩
theorem Oth.trans {g : Nat} {a b c : World} (h : Oth g a b) (k : Oth g b c) : Oth g a c := ⟨h.1.trans k.1, fun i hi => (k.2 i hi).trans (h.2 i hi)⟩
theorem RowAt.range {g : Nat} {A : Array Value} {w : World} (h : RowAt g A w) (off : Nat) {B : Array Value} (hB : A.extract off (off + B.size) = B) : w.rangeAt g off B.toList := by
  obtain ⟨t, ht⟩ := h
  have := World.rangeAt_of_block ht off B.size
  rw [hB] at this
  exact this
theorem RowAt.there {g : Nat} {A : Array Value} {w : World} (h : RowAt g A w) {off n : Nat} (hn : off + n ≤ A.size) : w.there g off n := fun j hj => by
  refine ⟨?_, h.open_ _⟩
  rw [h.cell (v := A[off + j]'(by omega)) (by simp)]
  rfl
section
variable {P : Program} {ops : Array Oper} {rest : List Oper} {o : Oper} {a : Act} {w : World} {Q : Exit → Act → World → Prop}
/-- An operation under a guard, p being what the guard says. -/
theorem wpList_if {p : Bool} {v : Value} (hw : Region.wanted o (yielded ops a.tmps) = p) (hv : p = true → (execOp a.eval o).run P w = .ok (.value v) w) (h : wpList P ops Q rest (a.put o.dst (if p = true then v else undef)) w) : wpList P ops Q (o :: rest) a w := by
  refine wpList_step fun K hK => ?_
  rw [hw]
  cases p
  · exact hK _ _ (by simpa using h)
  · rw [if_pos rfl]
    unfold Oper.wp
    rw [hv rfl]
    exact hK _ _ (by simpa using h)
theorem wpList_do {v : Value} (hg : o.guard = none) (hv : (execOp a.eval o).run P w = .ok (.value v) w) (h : wpList P ops Q rest (a.put o.dst v) w) : wpList P ops Q (o :: rest) a w :=
  wpList_if (p := true) (by unfold Region.wanted; rw [hg]) (fun _ => hv) (by simpa using h)
theorem run_part {T : TypeId} {p : Operand} (ho : o.op = .load T p) {g off : Nat} (hp : a.eval p = .pointer (some ⟨g, off, none⟩)) {A B : Array Value} (h : RowAt g A w) {d : TypeDesc} (hu : P.underlying T = some d) (hd : d.isRow = true) (hi : (P.info? T).map (·.size) = some B.size) (hB : A.extract off (off + B.size) = B) :
    (execOp a.eval o).run P w = .ok (.value (.agg B)) w := by
  unfold execOp
  simp only [ho, hp, run_loadAt_mid w g off T B.toList d (h.range off hB) hu hd (by simpa using hi), Sem.run_bind, Sem.run_pure, Result.andThen_ok]
theorem run_cell {T : TypeId} {p : Operand} (ho : o.op = .load T p) {g off : Nat} (hp : a.eval p = .pointer (some ⟨g, off, none⟩)) {A : Array Value} {v : Value} (h : RowAt g A w) {d : TypeDesc} (hu : P.underlying T = some d) (hd : d.isRow = false) (hv : A[off]? = some v) :
    (execOp a.eval o).run P w = .ok (.value v) w := by
  unfold execOp
  have hc := h.cell hv
  have hagg : (isAgg T).run P w = .ok false w := by
    unfold isAgg
    rw [Sem.run_bind, run_underlying hu w]
    cases d <;> simp_all
  simp only [ho, hp, Instr.loadAt, Instr.sureAddr, Sem.run_bind, Sem.run_pure, Result.andThen_ok, loadVar, hagg]
  simp [hc]
theorem run_put {T : TypeId} {p y : Operand} (ho : o.op = .store T p y) {g off : Nat} (hp : a.eval p = .pointer (some ⟨g, off, none⟩)) {A B : Array Value} (h : RowAt g A w) (hy : a.eval y = .agg B) (hi : (P.info? T).map (·.size) = some B.size) (h1 : B.all (·.oneCell') = true) (hn : off + B.size ≤ A.size) :
    (execOp a.eval o).run P w = .ok .skip (w.setCells g off B.toList) := by
  unfold execOp
  simp only [ho, hp, hy, run_storeAt_mid w g off T B (h.there hn) hi h1, Sem.run_bind, Sem.run_pure, Result.andThen_ok]
theorem wp_part {T : TypeId} {p : Operand} (hgd : o.guard = none) (ho : o.op = .load T p) {g off : Nat} (hp : a.eval p = .pointer (some ⟨g, off, none⟩)) {A B : Array Value} (h : RowAt g A w) {d : TypeDesc} (hu : P.underlying T = some d) (hd : d.isRow = true) (hi : (P.info? T).map (·.size) = some B.size) (hB : A.extract off (off + B.size) = B)
    (hK : wpList P ops Q rest (a.put o.dst (.agg B)) w) : wpList P ops Q (o :: rest) a w := wpList_do hgd (run_part ho hp h hu hd hi hB) hK
theorem wp_cell {T : TypeId} {p : Operand} (hgd : o.guard = none) (ho : o.op = .load T p) {g off : Nat} (hp : a.eval p = .pointer (some ⟨g, off, none⟩)) {A : Array Value} {v : Value} (h : RowAt g A w) {d : TypeDesc} (hu : P.underlying T = some d) (hd : d.isRow = false) (hv : A[off]? = some v)
    (hK : wpList P ops Q rest (a.put o.dst v) w) : wpList P ops Q (o :: rest) a w := wpList_do hgd (run_cell ho hp h hu hd hv) hK
theorem wp_put {T : TypeId} {p y : Operand} (hgd : o.guard = none) (ho : o.op = .store T p y) {g off : Nat} (hp : a.eval p = .pointer (some ⟨g, off, none⟩)) {A B A' : Array Value} (h : RowAt g A w) (hy : a.eval y = .agg B) (hi : (P.info? T).map (·.size) = some B.size) (h1 : B.all (·.oneCell') = true) (hn : off + B.size ≤ A.size) (hA : putAt A off B.toList = A')
    (hK : ∀ w', RowAt g A' w' → Oth g w w' → wpList P ops Q rest (a.put o.dst undef) w') : wpList P ops Q (o :: rest) a w := by
  refine wpList_plain hgd fun K hK' => ?_
  unfold Oper.wp
  rw [run_put ho hp h hy hi h1 hn]
  obtain ⟨h2, h3⟩ := RowAt.sets B.toList off A w h
  exact hK' _ _ (hK _ (hA ▸ h2) h3)
/-- .. where it alone may come up. -/
theorem wpAnyH_put1 {md : Region.Mode} {S : World → Prop} {i fuel : Nat} {listed : Array Bool} {T : TypeId} {p y : Operand} (hr : Region.ready md ops listed = [i]) (hi : ops[i]? = some o) (hgd : o.guard = none) (hdn : o.dst = none) (ho : o.op = .store T p y) {g off : Nat} (hp : a.eval p = .pointer (some ⟨g, off, none⟩)) {A B A' : Array Value} (h : RowAt g A w) (hy : a.eval y = .agg B) (hs : (P.info? T).map (·.size) = some B.size) (h1 : B.all (·.oneCell') = true) (hn : off + B.size ≤ A.size) (hA : putAt A off B.toList = A')
    (hS : ∀ w', Oth g w w' → S w') (hK : ∀ w', RowAt g A' w' → Oth g w w' → wpAnyH P md ops Q S fuel (listed.setIfInBounds i true) a w') : wpAnyH P md ops Q S (fuel + 1) listed a w := by
  refine wpAnyH_ready hr (by simp) (AllReadyH.cons hi (fun K' hK' => ?_) AllReadyH.nil)
  rw [if_pos (by unfold Region.wanted; rw [hgd])]
  unfold Oper.wp
  rw [run_put ho hp h hy hs h1 hn]
  obtain ⟨h2, h3⟩ := RowAt.sets B.toList off A w h
  have := hK'.out _ _ (hS _ h3) (fun _ => hK _ (hA ▸ h2) h3)
  show K' (a.put o.dst undef) _
  rw [hdn]
  exact this
/-- A function that hands a row back. -/
theorem ret_row {fn : Func} {R : Ending → World → Prop} {p : Tmp} {T : TypeId} (h : fn.results = #[.cell p T]) {g : Nat} {A : Array Value} (hp : a.tmps.getD p undef = .pointer (some ⟨g, 0, none⟩)) (hd : a.defers = []) (hc : RowAt g A w) {d : TypeDesc} (hu : P.underlying T = some d) (hr : d.isRow = true) (hi : (P.info? T).map (·.size) = some A.size) (hR : R (.returned (.agg A)) w) : bodyPost P fn R .ret a w := by
  obtain ⟨t, ht⟩ := hc
  exact bodyPost_ret (results_cell_row h a.tmps w g t A (0, 0) _ hp ht hu (by cases d <;> simp_all) hi) hd hR
theorem ret_row2 {fn : Func} {R : Ending → World → Prop} {p u : Tmp} {T : TypeId} (h : fn.results = #[.cell p T, .tmp u]) {g : Nat} {A : Array Value} {x : Value} (hp : a.tmps.getD p undef = .pointer (some ⟨g, 0, none⟩)) (hx : a.tmps.getD u undef = x) (hd : a.defers = []) (hc : RowAt g A w) {d : TypeDesc} (hu : P.underlying T = some d) (hr : d.isRow = true) (hi : (P.info? T).map (·.size) = some A.size) (hR : R (.returned (.tuple #[.agg A, x])) w) : bodyPost P fn R .ret a w := by
  obtain ⟨t, ht⟩ := hc
  refine bodyPost_ret (v := .tuple #[.agg A, x]) ?_ hd hR
  have hl := run_loadVar_row (P := P) w g t T A (0, 0) d ht hu (by cases d <;> simp_all) hi
  rw [results_cell_tmp h, hp, hx]
  simp only [asAddr, Sem.run_pure, Result.andThen_ok, hl]
theorem run_pkT {c x : Operand} {p : Bool} (ho : o.op = .pick c (.const (.bool true)) x) (hc : a.eval c = .bool p) (hp : p = true) : (execOp a.eval o).run P w = .ok (.value (.bool true)) w := by
  subst hp
  unfold execOp
  simp only [ho, hc]
  go_simp
theorem run_pkF {c : Operand} {x : Nat} {u : Value} (ho : o.op = .pick c (.const (.bool true)) (.tmp x)) (hc : a.eval c = .bool false) (hx : a.eval (.tmp x) = u) : (execOp a.eval o).run P w = .ok (.value u) w := by
  have h' : a.tmps[x]?.getD undef = u := by rw [← hx]; simp [Act.eval]
  clear hx
  unfold execOp
  simp only [ho, hc]
  go_simp
theorem run_call1 {f : FuncId} (hf : ∀ args w, (callFunc f args).run P w = .ok (.enter f args) w) {x : Nat} {v : Value} {ts : Array TypeId} (ho : o.op = .call { callee := .value (.func f), args := #[.tmp x], argTypes := ts }) (hx : a.eval (.tmp x) = v) : (execOp a.eval o).run P w = .ok (.enter f #[v]) w := by
  have h' : a.tmps[x]?.getD undef = v := by rw [← hx]; simp [Act.eval]
  clear hx
  unfold execOp
  simp only [ho]
  go_simp
theorem run_call2 {f : FuncId} (hf : ∀ args w, (callFunc f args).run P w = .ok (.enter f args) w) {x y : Nat} {v u : Value} {ts : Array TypeId} (ho : o.op = .call { callee := .value (.func f), args := #[.tmp x, .tmp y], argTypes := ts }) (hx : a.eval (.tmp x) = v) (hy : a.eval (.tmp y) = u) : (execOp a.eval o).run P w = .ok (.enter f #[v, u]) w := by
  have h' : a.tmps[x]?.getD undef = v := by rw [← hx]; simp [Act.eval]
  have h2' : a.tmps[y]?.getD undef = u := by rw [← hy]; simp [Act.eval]
  clear hx hy
  unfold execOp
  simp only [ho]
  go_simp
theorem all_one {A : Array Value} (h : A.toList.all (·.oneCell') = true) : A.all (·.oneCell') = true := by rw [← Array.all_toList]; exact h
theorem wpAnyH_gen {md : Region.Mode} {S : World → Prop} {fuel : Nat} {listed : Array Bool} (F : Act → Prop) (h : F a) (H : ∀ a, F a → wpAnyH P md ops Q S fuel listed a w) : wpAnyH P md ops Q S fuel listed a w := H a h
/-- One of a drawn region, taken first. -/
theorem takeH {md : Region.Mode} {S : World → Prop} {i d fuel : Nat} {v : Value} {listed : Array Bool} (hi : ops[i]? = some o) (hs : Region.noSelect ops = true) (hf : Region.free md ops listed i = true) (hr : (Region.ready md ops listed).contains i = true) (hd : o.dst = some d) (hz : d < a.tmps.size)
    (hQ : ∀ c a w, Q (.panic c) (a.put o.dst v) w → Q (.panic c) a w) (hg : o.guard = none) (hy : ∀ w, S w → (execOp a.eval o).run P w = .ok (.value v) w) (hS : S w)
    (h : ∀ b : Act, (b.tmps.size = a.tmps.size ∧ b.defers = a.defers) → (∀ x, d ≠ x → b.eval (.tmp x) = a.eval (.tmp x)) → b.eval (.tmp d) = v → wpAnyH P md ops Q S fuel (listed.setIfInBounds i true) b w) : wpAnyH P md ops Q S (fuel + 1) listed a w := by
  refine wpAnyH_take hi hs hf hr hQ (Or.inl ⟨by unfold Region.wanted; rw [hg], hy⟩) hS ?_
  rw [hd]
  exact h _ ⟨size_put, rfl⟩ (fun x hx => eval_put_ne hx) (eval_put_eq hz)
/-- One operation under a guard, the frame behind it by what it shows. -/
theorem step_if {p : Bool} {v : Value} {d : Nat} (hd : o.dst = some d) (hz : d < a.tmps.size) (hw : Region.wanted o (yielded ops a.tmps) = p) (hv : p = true → (execOp a.eval o).run P w = .ok (.value v) w)
    (h : ∀ b : Act, (b.tmps.size = a.tmps.size ∧ b.defers = a.defers) → (∀ x, d ≠ x → b.eval (.tmp x) = a.eval (.tmp x)) → b.eval (.tmp d) = (if p = true then v else undef) → wpList P ops Q rest b w) : wpList P ops Q (o :: rest) a w := by
  refine wpList_if hw hv ?_
  rw [hd]
  exact h _ ⟨size_put, rfl⟩ (fun x hx => eval_put_ne hx) (eval_put_eq hz)
theorem step_do {v : Value} {d : Nat} (hg : o.guard = none) (hd : o.dst = some d) (hz : d < a.tmps.size) (hv : (execOp a.eval o).run P w = .ok (.value v) w)
    (h : ∀ b : Act, (b.tmps.size = a.tmps.size ∧ b.defers = a.defers) → (∀ x, d ≠ x → b.eval (.tmp x) = a.eval (.tmp x)) → b.eval (.tmp d) = v → wpList P ops Q rest b w) : wpList P ops Q (o :: rest) a w :=
  step_if (p := true) hd hz (by unfold Region.wanted; rw [hg]) (fun _ => hv) (fun b h1 h2 h3 => h b h1 h2 (by simpa using h3))
theorem run_mv {x : Operand} {v : Value} (ho : o.op = .move x) (hx : a.eval x = v) : (execOp a.eval o).run P w = .ok (.value v) w := by
  unfold execOp
  simp only [ho, hx, Sem.run_pure]
theorem run_as {x : Operand} {v : Value} (ho : o.op = .assign x) (hx : a.eval x = v) : (execOp a.eval o).run P w = .ok (.value v) w := by
  unfold execOp
  simp only [ho, hx, Sem.run_pure]
theorem run_pk {c x : Operand} {p q : Bool} (ho : o.op = .pick c x (.const (.bool false))) (hc : a.eval c = .bool p) (hx : a.eval x = if p = true then .bool q else undef) : (execOp a.eval o).run P w = .ok (.value (.bool (p && q))) w := by
  unfold execOp
  simp only [ho, hc, hx]
  cases p <;> go_simp
/-- A store of a whole row. -/
theorem wp_whole {T : TypeId} {p y : Operand} (hgd : o.guard = none) (ho : o.op = .store T p y) {g : Nat} (hp : a.eval p = .pointer (some ⟨g, 0, none⟩)) {A B : Array Value} (h : RowAt g A w) (hy : a.eval y = .agg B) (hi : (P.info? T).map (·.size) = some B.size) (h1 : B.all (·.oneCell') = true) (hn : B.size = A.size)
    (hK : ∀ w', RowAt g B w' → Oth g w w' → wpList P ops Q rest (a.put o.dst undef) w') : wpList P ops Q (o :: rest) a w := by
  refine wpList_plain hgd fun K hK' => ?_
  obtain ⟨t, ht⟩ := h
  unfold Oper.wp execOp
  simp only [ho, hp, hy, Instr.storeAt, Instr.sureAddr, Sem.run_bind, Sem.run_pure, Result.andThen_ok, run_storeVar_row w g t T A B ht hi hn.symm h1]
  exact hK' _ _ (hK _ ⟨t, setRow_heap w g _ _ t _ ht⟩ ⟨⟨rfl, rfl, rfl, by simp [World.setRow], fun k hk => setRow_other w g k _ (by omega)⟩, fun b hb => setRow_other w g b _ hb⟩)
end
theorem infSk : (Tryz.prog.info? 48).map (·.size) = some 29 := by kernel_rfl
theorem infPm : (Tryz.prog.info? 32).map (·.size) = some 4 := by kernel_rfl
theorem infTa : (Tryz.prog.info? 34).map (·.size) = some 3 := by kernel_rfl
theorem infCm : (Tryz.prog.info? 36).map (·.size) = some 5 := by kernel_rfl
theorem infLl : (Tryz.prog.info? 38).map (·.size) = some 3 := by kernel_rfl
theorem infTo : (Tryz.prog.info? 41).map (·.size) = some 4 := by kernel_rfl
theorem infFq : (Tryz.prog.info? 43).map (·.size) = some 5 := by kernel_rfl
theorem infRk : (Tryz.prog.info? 46).map (·.size) = some 5 := by kernel_rfl
theorem infIt : (Tryz.prog.info? 71).map (·.size) = some 2 := by kernel_rfl
def zcSk : Array Value := #[.int .i64 0, .int .i64 0, .int .i64 0, .int .u64 0, .int .i64 0, .int .i64 0, .bool false, .int .i64 0, .int .i64 0, .int .u64 0, .slice none 0 0, .bool false, .int .i64 0, .int .u64 0, .slice none 0 0, .int .i64 0, .int .i64 0, .slice none 0 0, .bool false, .int .i64 0, .int .i64 0, .int .i64 0, .slice none 0 0, .bool false, .int .i64 0, .int .i64 0, .int .i64 0, .slice none 0 0, .bool false]
def zcCm : Array Value := #[.int .i64 0, .int .i64 0, .int .u64 0, .slice none 0 0, .bool false]
def zcLl : Array Value := #[.int .i64 0, .int .u64 0, .slice none 0 0]
def zcTo : Array Value := #[.int .i64 0, .int .i64 0, .slice none 0 0, .bool false]
def zcFq : Array Value := #[.int .i64 0, .int .i64 0, .int .i64 0, .slice none 0 0, .bool false]
def zcRk : Array Value := #[.int .i64 0, .int .i64 0, .int .i64 0, .slice none 0 0, .bool false]
section
variable {ops : Array Oper} {rest : List Oper} {o : Oper} {a : Act} {w : World} {Q : Exit → Act → World → Prop}
theorem ldSk {p : Operand} (hgd : o.guard = none) (ho : o.op = .load 48 p) {g off : Nat} (hp : a.eval p = .pointer (some ⟨g, off, none⟩)) {A B : Array Value} (h : RowAt g A w) (hs : B.size = 29) (hB : A.extract off (off + B.size) = B)
    (hK : wpList Tryz.prog ops Q rest (a.put o.dst (.agg B)) w) : wpList Tryz.prog ops Q (o :: rest) a w := wp_part hgd ho hp h Tryz.underlying48 rfl (infSk.trans (by rw [hs])) hB hK
theorem ldPm {p : Operand} (hgd : o.guard = none) (ho : o.op = .load 32 p) {g off : Nat} (hp : a.eval p = .pointer (some ⟨g, off, none⟩)) {A B : Array Value} (h : RowAt g A w) (hs : B.size = 4) (hB : A.extract off (off + B.size) = B)
    (hK : wpList Tryz.prog ops Q rest (a.put o.dst (.agg B)) w) : wpList Tryz.prog ops Q (o :: rest) a w := wp_part hgd ho hp h Tryz.underlying32 rfl (infPm.trans (by rw [hs])) hB hK
theorem stPm {p y : Operand} (hgd : o.guard = none) (ho : o.op = .store 32 p y) {g off : Nat} (hp : a.eval p = .pointer (some ⟨g, off, none⟩)) {A B A' : Array Value} (h : RowAt g A w) (hy : a.eval y = .agg B) (hs : B.size = 4) (h1 : B.all (·.oneCell') = true) (hn : off + 4 ≤ A.size) (hA : putAt A off B.toList = A')
    (hK : ∀ w', RowAt g A' w' → Oth g w w' → wpList Tryz.prog ops Q rest (a.put o.dst undef) w') : wpList Tryz.prog ops Q (o :: rest) a w := wp_put hgd ho hp h hy (infPm.trans (by rw [hs])) h1 (by rw [hs]; exact hn) hA hK
theorem ldTa {p : Operand} (hgd : o.guard = none) (ho : o.op = .load 34 p) {g off : Nat} (hp : a.eval p = .pointer (some ⟨g, off, none⟩)) {A B : Array Value} (h : RowAt g A w) (hs : B.size = 3) (hB : A.extract off (off + B.size) = B)
    (hK : wpList Tryz.prog ops Q rest (a.put o.dst (.agg B)) w) : wpList Tryz.prog ops Q (o :: rest) a w := wp_part hgd ho hp h Tryz.underlying34 rfl (infTa.trans (by rw [hs])) hB hK
theorem lgTa {p : Operand} (hgd : Region.wanted o (yielded ops a.tmps) = true) (ho : o.op = .load 34 p) {g off : Nat} (hp : a.eval p = .pointer (some ⟨g, off, none⟩)) {A B : Array Value} (h : RowAt g A w) (hs : B.size = 3) (hB : A.extract off (off + B.size) = B)
    (hK : wpList Tryz.prog ops Q rest (a.put o.dst (.agg B)) w) : wpList Tryz.prog ops Q (o :: rest) a w := wpList_if hgd (fun _ => run_part ho hp h Tryz.underlying34 rfl (infTa.trans (by rw [hs])) hB) (by simpa using hK)
theorem stTa {p y : Operand} (hgd : o.guard = none) (ho : o.op = .store 34 p y) {g off : Nat} (hp : a.eval p = .pointer (some ⟨g, off, none⟩)) {A B A' : Array Value} (h : RowAt g A w) (hy : a.eval y = .agg B) (hs : B.size = 3) (h1 : B.all (·.oneCell') = true) (hn : off + 3 ≤ A.size) (hA : putAt A off B.toList = A')
    (hK : ∀ w', RowAt g A' w' → Oth g w w' → wpList Tryz.prog ops Q rest (a.put o.dst undef) w') : wpList Tryz.prog ops Q (o :: rest) a w := wp_put hgd ho hp h hy (infTa.trans (by rw [hs])) h1 (by rw [hs]; exact hn) hA hK
theorem ldCm {p : Operand} (hgd : o.guard = none) (ho : o.op = .load 36 p) {g off : Nat} (hp : a.eval p = .pointer (some ⟨g, off, none⟩)) {A B : Array Value} (h : RowAt g A w) (hs : B.size = 5) (hB : A.extract off (off + B.size) = B)
    (hK : wpList Tryz.prog ops Q rest (a.put o.dst (.agg B)) w) : wpList Tryz.prog ops Q (o :: rest) a w := wp_part hgd ho hp h Tryz.underlying36 rfl (infCm.trans (by rw [hs])) hB hK
theorem lgCm {p : Operand} (hgd : Region.wanted o (yielded ops a.tmps) = true) (ho : o.op = .load 36 p) {g off : Nat} (hp : a.eval p = .pointer (some ⟨g, off, none⟩)) {A B : Array Value} (h : RowAt g A w) (hs : B.size = 5) (hB : A.extract off (off + B.size) = B)
    (hK : wpList Tryz.prog ops Q rest (a.put o.dst (.agg B)) w) : wpList Tryz.prog ops Q (o :: rest) a w := wpList_if hgd (fun _ => run_part ho hp h Tryz.underlying36 rfl (infCm.trans (by rw [hs])) hB) (by simpa using hK)
theorem stCm {p y : Operand} (hgd : o.guard = none) (ho : o.op = .store 36 p y) {g off : Nat} (hp : a.eval p = .pointer (some ⟨g, off, none⟩)) {A B A' : Array Value} (h : RowAt g A w) (hy : a.eval y = .agg B) (hs : B.size = 5) (h1 : B.all (·.oneCell') = true) (hn : off + 5 ≤ A.size) (hA : putAt A off B.toList = A')
    (hK : ∀ w', RowAt g A' w' → Oth g w w' → wpList Tryz.prog ops Q rest (a.put o.dst undef) w') : wpList Tryz.prog ops Q (o :: rest) a w := wp_put hgd ho hp h hy (infCm.trans (by rw [hs])) h1 (by rw [hs]; exact hn) hA hK
theorem ldLl {p : Operand} (hgd : o.guard = none) (ho : o.op = .load 38 p) {g off : Nat} (hp : a.eval p = .pointer (some ⟨g, off, none⟩)) {A B : Array Value} (h : RowAt g A w) (hs : B.size = 3) (hB : A.extract off (off + B.size) = B)
    (hK : wpList Tryz.prog ops Q rest (a.put o.dst (.agg B)) w) : wpList Tryz.prog ops Q (o :: rest) a w := wp_part hgd ho hp h Tryz.underlying38 rfl (infLl.trans (by rw [hs])) hB hK
theorem lgLl {p : Operand} (hgd : Region.wanted o (yielded ops a.tmps) = true) (ho : o.op = .load 38 p) {g off : Nat} (hp : a.eval p = .pointer (some ⟨g, off, none⟩)) {A B : Array Value} (h : RowAt g A w) (hs : B.size = 3) (hB : A.extract off (off + B.size) = B)
    (hK : wpList Tryz.prog ops Q rest (a.put o.dst (.agg B)) w) : wpList Tryz.prog ops Q (o :: rest) a w := wpList_if hgd (fun _ => run_part ho hp h Tryz.underlying38 rfl (infLl.trans (by rw [hs])) hB) (by simpa using hK)
theorem stLl {p y : Operand} (hgd : o.guard = none) (ho : o.op = .store 38 p y) {g off : Nat} (hp : a.eval p = .pointer (some ⟨g, off, none⟩)) {A B A' : Array Value} (h : RowAt g A w) (hy : a.eval y = .agg B) (hs : B.size = 3) (h1 : B.all (·.oneCell') = true) (hn : off + 3 ≤ A.size) (hA : putAt A off B.toList = A')
    (hK : ∀ w', RowAt g A' w' → Oth g w w' → wpList Tryz.prog ops Q rest (a.put o.dst undef) w') : wpList Tryz.prog ops Q (o :: rest) a w := wp_put hgd ho hp h hy (infLl.trans (by rw [hs])) h1 (by rw [hs]; exact hn) hA hK
theorem ldTo {p : Operand} (hgd : o.guard = none) (ho : o.op = .load 41 p) {g off : Nat} (hp : a.eval p = .pointer (some ⟨g, off, none⟩)) {A B : Array Value} (h : RowAt g A w) (hs : B.size = 4) (hB : A.extract off (off + B.size) = B)
    (hK : wpList Tryz.prog ops Q rest (a.put o.dst (.agg B)) w) : wpList Tryz.prog ops Q (o :: rest) a w := wp_part hgd ho hp h Tryz.underlying41 rfl (infTo.trans (by rw [hs])) hB hK
theorem lgTo {p : Operand} (hgd : Region.wanted o (yielded ops a.tmps) = true) (ho : o.op = .load 41 p) {g off : Nat} (hp : a.eval p = .pointer (some ⟨g, off, none⟩)) {A B : Array Value} (h : RowAt g A w) (hs : B.size = 4) (hB : A.extract off (off + B.size) = B)
    (hK : wpList Tryz.prog ops Q rest (a.put o.dst (.agg B)) w) : wpList Tryz.prog ops Q (o :: rest) a w := wpList_if hgd (fun _ => run_part ho hp h Tryz.underlying41 rfl (infTo.trans (by rw [hs])) hB) (by simpa using hK)
theorem stTo {p y : Operand} (hgd : o.guard = none) (ho : o.op = .store 41 p y) {g off : Nat} (hp : a.eval p = .pointer (some ⟨g, off, none⟩)) {A B A' : Array Value} (h : RowAt g A w) (hy : a.eval y = .agg B) (hs : B.size = 4) (h1 : B.all (·.oneCell') = true) (hn : off + 4 ≤ A.size) (hA : putAt A off B.toList = A')
    (hK : ∀ w', RowAt g A' w' → Oth g w w' → wpList Tryz.prog ops Q rest (a.put o.dst undef) w') : wpList Tryz.prog ops Q (o :: rest) a w := wp_put hgd ho hp h hy (infTo.trans (by rw [hs])) h1 (by rw [hs]; exact hn) hA hK
theorem ldFq {p : Operand} (hgd : o.guard = none) (ho : o.op = .load 43 p) {g off : Nat} (hp : a.eval p = .pointer (some ⟨g, off, none⟩)) {A B : Array Value} (h : RowAt g A w) (hs : B.size = 5) (hB : A.extract off (off + B.size) = B)
    (hK : wpList Tryz.prog ops Q rest (a.put o.dst (.agg B)) w) : wpList Tryz.prog ops Q (o :: rest) a w := wp_part hgd ho hp h Tryz.underlying43 rfl (infFq.trans (by rw [hs])) hB hK
theorem lgFq {p : Operand} (hgd : Region.wanted o (yielded ops a.tmps) = true) (ho : o.op = .load 43 p) {g off : Nat} (hp : a.eval p = .pointer (some ⟨g, off, none⟩)) {A B : Array Value} (h : RowAt g A w) (hs : B.size = 5) (hB : A.extract off (off + B.size) = B)
    (hK : wpList Tryz.prog ops Q rest (a.put o.dst (.agg B)) w) : wpList Tryz.prog ops Q (o :: rest) a w := wpList_if hgd (fun _ => run_part ho hp h Tryz.underlying43 rfl (infFq.trans (by rw [hs])) hB) (by simpa using hK)
theorem stFq {p y : Operand} (hgd : o.guard = none) (ho : o.op = .store 43 p y) {g off : Nat} (hp : a.eval p = .pointer (some ⟨g, off, none⟩)) {A B A' : Array Value} (h : RowAt g A w) (hy : a.eval y = .agg B) (hs : B.size = 5) (h1 : B.all (·.oneCell') = true) (hn : off + 5 ≤ A.size) (hA : putAt A off B.toList = A')
    (hK : ∀ w', RowAt g A' w' → Oth g w w' → wpList Tryz.prog ops Q rest (a.put o.dst undef) w') : wpList Tryz.prog ops Q (o :: rest) a w := wp_put hgd ho hp h hy (infFq.trans (by rw [hs])) h1 (by rw [hs]; exact hn) hA hK
theorem ldRk {p : Operand} (hgd : o.guard = none) (ho : o.op = .load 46 p) {g off : Nat} (hp : a.eval p = .pointer (some ⟨g, off, none⟩)) {A B : Array Value} (h : RowAt g A w) (hs : B.size = 5) (hB : A.extract off (off + B.size) = B)
    (hK : wpList Tryz.prog ops Q rest (a.put o.dst (.agg B)) w) : wpList Tryz.prog ops Q (o :: rest) a w := wp_part hgd ho hp h Tryz.underlying46 rfl (infRk.trans (by rw [hs])) hB hK
theorem lgRk {p : Operand} (hgd : Region.wanted o (yielded ops a.tmps) = true) (ho : o.op = .load 46 p) {g off : Nat} (hp : a.eval p = .pointer (some ⟨g, off, none⟩)) {A B : Array Value} (h : RowAt g A w) (hs : B.size = 5) (hB : A.extract off (off + B.size) = B)
    (hK : wpList Tryz.prog ops Q rest (a.put o.dst (.agg B)) w) : wpList Tryz.prog ops Q (o :: rest) a w := wpList_if hgd (fun _ => run_part ho hp h Tryz.underlying46 rfl (infRk.trans (by rw [hs])) hB) (by simpa using hK)
theorem stRk {p y : Operand} (hgd : o.guard = none) (ho : o.op = .store 46 p y) {g off : Nat} (hp : a.eval p = .pointer (some ⟨g, off, none⟩)) {A B A' : Array Value} (h : RowAt g A w) (hy : a.eval y = .agg B) (hs : B.size = 5) (h1 : B.all (·.oneCell') = true) (hn : off + 5 ≤ A.size) (hA : putAt A off B.toList = A')
    (hK : ∀ w', RowAt g A' w' → Oth g w w' → wpList Tryz.prog ops Q rest (a.put o.dst undef) w') : wpList Tryz.prog ops Q (o :: rest) a w := wp_put hgd ho hp h hy (infRk.trans (by rw [hs])) h1 (by rw [hs]; exact hn) hA hK
theorem ldIt {p : Operand} (hgd : o.guard = none) (ho : o.op = .load 71 p) {g off : Nat} (hp : a.eval p = .pointer (some ⟨g, off, none⟩)) {A B : Array Value} (h : RowAt g A w) (hs : B.size = 2) (hB : A.extract off (off + B.size) = B)
    (hK : wpList Tryz.prog ops Q rest (a.put o.dst (.agg B)) w) : wpList Tryz.prog ops Q (o :: rest) a w := wp_part hgd ho hp h Tryz.underlying71 rfl (infIt.trans (by rw [hs])) hB hK
theorem stWh {p y : Operand} (hgd : o.guard = none) (ho : o.op = .store 48 p y) {g : Nat} (hp : a.eval p = .pointer (some ⟨g, 0, none⟩)) {A B : Array Value} (h : RowAt g A w) (hy : a.eval y = .agg B) (hs : B.size = 29) (hn : A.size = 29) (h1 : B.toList.all (·.oneCell') = true)
    (hK : ∀ w', RowAt g B w' → Oth g w w' → wpList Tryz.prog ops Q rest (a.put o.dst undef) w') : wpList Tryz.prog ops Q (o :: rest) a w := wp_whole hgd ho hp h hy (infSk.trans (by rw [hs])) (all_one h1) (hs.trans hn.symm) hK
theorem ldi {p : Operand} (hgd : o.guard = none) (ho : o.op = .load 3 p) {g off : Nat} (hp : a.eval p = .pointer (some ⟨g, off, none⟩)) {A : Array Value} {v : Value} (h : RowAt g A w) (hv : A[off]? = some v)
    (hK : wpList Tryz.prog ops Q rest (a.put o.dst v) w) : wpList Tryz.prog ops Q (o :: rest) a w := wp_cell hgd ho hp h Tryz.underlying3 rfl hv hK
theorem ldu {p : Operand} (hgd : o.guard = none) (ho : o.op = .load 30 p) {g off : Nat} (hp : a.eval p = .pointer (some ⟨g, off, none⟩)) {A : Array Value} {v : Value} (h : RowAt g A w) (hv : A[off]? = some v)
    (hK : wpList Tryz.prog ops Q rest (a.put o.dst v) w) : wpList Tryz.prog ops Q (o :: rest) a w := wp_cell hgd ho hp h Tryz.underlying30 rfl hv hK
theorem ldb {p : Operand} (hgd : o.guard = none) (ho : o.op = .load 4 p) {g off : Nat} (hp : a.eval p = .pointer (some ⟨g, off, none⟩)) {A : Array Value} {v : Value} (h : RowAt g A w) (hv : A[off]? = some v)
    (hK : wpList Tryz.prog ops Q rest (a.put o.dst v) w) : wpList Tryz.prog ops Q (o :: rest) a w := wp_cell hgd ho hp h Tryz.underlying4 rfl hv hK
theorem ldle {p : Operand} (hgd : o.guard = none) (ho : o.op = .load 39 p) {g off : Nat} (hp : a.eval p = .pointer (some ⟨g, off, none⟩)) {A : Array Value} {v : Value} (h : RowAt g A w) (hv : A[off]? = some v)
    (hK : wpList Tryz.prog ops Q rest (a.put o.dst v) w) : wpList Tryz.prog ops Q (o :: rest) a w := wp_cell hgd ho hp h Tryz.underlying39 rfl hv hK
theorem faSk0 {x : Operand} {g off : Nat} (ho : o.op = .fieldAddr 48 x 0) (h : a.eval x = .pointer (some ⟨g, off, none⟩)) : (execOp a.eval o).run Tryz.prog w = .ok (.value (.pointer (some ⟨g, off + 0, none⟩))) w := by
  unfold execOp
  simp only [ho, h]
  go_simp
theorem faSk1 {x : Operand} {g off : Nat} (ho : o.op = .fieldAddr 48 x 1) (h : a.eval x = .pointer (some ⟨g, off, none⟩)) : (execOp a.eval o).run Tryz.prog w = .ok (.value (.pointer (some ⟨g, off + 4, none⟩))) w := by
  unfold execOp
  simp only [ho, h]
  go_simp
theorem faSk2 {x : Operand} {g off : Nat} (ho : o.op = .fieldAddr 48 x 2) (h : a.eval x = .pointer (some ⟨g, off, none⟩)) : (execOp a.eval o).run Tryz.prog w = .ok (.value (.pointer (some ⟨g, off + 7, none⟩))) w := by
  unfold execOp
  simp only [ho, h]
  go_simp
theorem faSk3 {x : Operand} {g off : Nat} (ho : o.op = .fieldAddr 48 x 3) (h : a.eval x = .pointer (some ⟨g, off, none⟩)) : (execOp a.eval o).run Tryz.prog w = .ok (.value (.pointer (some ⟨g, off + 12, none⟩))) w := by
  unfold execOp
  simp only [ho, h]
  go_simp
theorem faSk4 {x : Operand} {g off : Nat} (ho : o.op = .fieldAddr 48 x 4) (h : a.eval x = .pointer (some ⟨g, off, none⟩)) : (execOp a.eval o).run Tryz.prog w = .ok (.value (.pointer (some ⟨g, off + 15, none⟩))) w := by
  unfold execOp
  simp only [ho, h]
  go_simp
theorem faSk5 {x : Operand} {g off : Nat} (ho : o.op = .fieldAddr 48 x 5) (h : a.eval x = .pointer (some ⟨g, off, none⟩)) : (execOp a.eval o).run Tryz.prog w = .ok (.value (.pointer (some ⟨g, off + 19, none⟩))) w := by
  unfold execOp
  simp only [ho, h]
  go_simp
theorem faSk6 {x : Operand} {g off : Nat} (ho : o.op = .fieldAddr 48 x 6) (h : a.eval x = .pointer (some ⟨g, off, none⟩)) : (execOp a.eval o).run Tryz.prog w = .ok (.value (.pointer (some ⟨g, off + 24, none⟩))) w := by
  unfold execOp
  simp only [ho, h]
  go_simp
theorem faCm0 {x : Operand} {g off : Nat} (ho : o.op = .fieldAddr 36 x 0) (h : a.eval x = .pointer (some ⟨g, off, none⟩)) : (execOp a.eval o).run Tryz.prog w = .ok (.value (.pointer (some ⟨g, off + 0, none⟩))) w := by
  unfold execOp
  simp only [ho, h]
  go_simp
theorem faCm1 {x : Operand} {g off : Nat} (ho : o.op = .fieldAddr 36 x 1) (h : a.eval x = .pointer (some ⟨g, off, none⟩)) : (execOp a.eval o).run Tryz.prog w = .ok (.value (.pointer (some ⟨g, off + 1, none⟩))) w := by
  unfold execOp
  simp only [ho, h]
  go_simp
theorem faCm2 {x : Operand} {g off : Nat} (ho : o.op = .fieldAddr 36 x 2) (h : a.eval x = .pointer (some ⟨g, off, none⟩)) : (execOp a.eval o).run Tryz.prog w = .ok (.value (.pointer (some ⟨g, off + 2, none⟩))) w := by
  unfold execOp
  simp only [ho, h]
  go_simp
theorem faCm3 {x : Operand} {g off : Nat} (ho : o.op = .fieldAddr 36 x 3) (h : a.eval x = .pointer (some ⟨g, off, none⟩)) : (execOp a.eval o).run Tryz.prog w = .ok (.value (.pointer (some ⟨g, off + 3, none⟩))) w := by
  unfold execOp
  simp only [ho, h]
  go_simp
theorem faCm4 {x : Operand} {g off : Nat} (ho : o.op = .fieldAddr 36 x 4) (h : a.eval x = .pointer (some ⟨g, off, none⟩)) : (execOp a.eval o).run Tryz.prog w = .ok (.value (.pointer (some ⟨g, off + 4, none⟩))) w := by
  unfold execOp
  simp only [ho, h]
  go_simp
theorem faLl0 {x : Operand} {g off : Nat} (ho : o.op = .fieldAddr 38 x 0) (h : a.eval x = .pointer (some ⟨g, off, none⟩)) : (execOp a.eval o).run Tryz.prog w = .ok (.value (.pointer (some ⟨g, off + 0, none⟩))) w := by
  unfold execOp
  simp only [ho, h]
  go_simp
theorem faLl1 {x : Operand} {g off : Nat} (ho : o.op = .fieldAddr 38 x 1) (h : a.eval x = .pointer (some ⟨g, off, none⟩)) : (execOp a.eval o).run Tryz.prog w = .ok (.value (.pointer (some ⟨g, off + 1, none⟩))) w := by
  unfold execOp
  simp only [ho, h]
  go_simp
theorem faLl2 {x : Operand} {g off : Nat} (ho : o.op = .fieldAddr 38 x 2) (h : a.eval x = .pointer (some ⟨g, off, none⟩)) : (execOp a.eval o).run Tryz.prog w = .ok (.value (.pointer (some ⟨g, off + 2, none⟩))) w := by
  unfold execOp
  simp only [ho, h]
  go_simp
theorem faTo0 {x : Operand} {g off : Nat} (ho : o.op = .fieldAddr 41 x 0) (h : a.eval x = .pointer (some ⟨g, off, none⟩)) : (execOp a.eval o).run Tryz.prog w = .ok (.value (.pointer (some ⟨g, off + 0, none⟩))) w := by
  unfold execOp
  simp only [ho, h]
  go_simp
theorem faTo1 {x : Operand} {g off : Nat} (ho : o.op = .fieldAddr 41 x 1) (h : a.eval x = .pointer (some ⟨g, off, none⟩)) : (execOp a.eval o).run Tryz.prog w = .ok (.value (.pointer (some ⟨g, off + 1, none⟩))) w := by
  unfold execOp
  simp only [ho, h]
  go_simp
theorem faTo2 {x : Operand} {g off : Nat} (ho : o.op = .fieldAddr 41 x 2) (h : a.eval x = .pointer (some ⟨g, off, none⟩)) : (execOp a.eval o).run Tryz.prog w = .ok (.value (.pointer (some ⟨g, off + 2, none⟩))) w := by
  unfold execOp
  simp only [ho, h]
  go_simp
theorem faTo3 {x : Operand} {g off : Nat} (ho : o.op = .fieldAddr 41 x 3) (h : a.eval x = .pointer (some ⟨g, off, none⟩)) : (execOp a.eval o).run Tryz.prog w = .ok (.value (.pointer (some ⟨g, off + 3, none⟩))) w := by
  unfold execOp
  simp only [ho, h]
  go_simp
theorem faFq0 {x : Operand} {g off : Nat} (ho : o.op = .fieldAddr 43 x 0) (h : a.eval x = .pointer (some ⟨g, off, none⟩)) : (execOp a.eval o).run Tryz.prog w = .ok (.value (.pointer (some ⟨g, off + 0, none⟩))) w := by
  unfold execOp
  simp only [ho, h]
  go_simp
theorem faFq1 {x : Operand} {g off : Nat} (ho : o.op = .fieldAddr 43 x 1) (h : a.eval x = .pointer (some ⟨g, off, none⟩)) : (execOp a.eval o).run Tryz.prog w = .ok (.value (.pointer (some ⟨g, off + 1, none⟩))) w := by
  unfold execOp
  simp only [ho, h]
  go_simp
theorem faFq2 {x : Operand} {g off : Nat} (ho : o.op = .fieldAddr 43 x 2) (h : a.eval x = .pointer (some ⟨g, off, none⟩)) : (execOp a.eval o).run Tryz.prog w = .ok (.value (.pointer (some ⟨g, off + 2, none⟩))) w := by
  unfold execOp
  simp only [ho, h]
  go_simp
theorem faFq3 {x : Operand} {g off : Nat} (ho : o.op = .fieldAddr 43 x 3) (h : a.eval x = .pointer (some ⟨g, off, none⟩)) : (execOp a.eval o).run Tryz.prog w = .ok (.value (.pointer (some ⟨g, off + 3, none⟩))) w := by
  unfold execOp
  simp only [ho, h]
  go_simp
theorem faFq4 {x : Operand} {g off : Nat} (ho : o.op = .fieldAddr 43 x 4) (h : a.eval x = .pointer (some ⟨g, off, none⟩)) : (execOp a.eval o).run Tryz.prog w = .ok (.value (.pointer (some ⟨g, off + 4, none⟩))) w := by
  unfold execOp
  simp only [ho, h]
  go_simp
theorem faRk0 {x : Operand} {g off : Nat} (ho : o.op = .fieldAddr 46 x 0) (h : a.eval x = .pointer (some ⟨g, off, none⟩)) : (execOp a.eval o).run Tryz.prog w = .ok (.value (.pointer (some ⟨g, off + 0, none⟩))) w := by
  unfold execOp
  simp only [ho, h]
  go_simp
theorem faRk1 {x : Operand} {g off : Nat} (ho : o.op = .fieldAddr 46 x 1) (h : a.eval x = .pointer (some ⟨g, off, none⟩)) : (execOp a.eval o).run Tryz.prog w = .ok (.value (.pointer (some ⟨g, off + 1, none⟩))) w := by
  unfold execOp
  simp only [ho, h]
  go_simp
theorem faRk2 {x : Operand} {g off : Nat} (ho : o.op = .fieldAddr 46 x 2) (h : a.eval x = .pointer (some ⟨g, off, none⟩)) : (execOp a.eval o).run Tryz.prog w = .ok (.value (.pointer (some ⟨g, off + 2, none⟩))) w := by
  unfold execOp
  simp only [ho, h]
  go_simp
theorem faRk3 {x : Operand} {g off : Nat} (ho : o.op = .fieldAddr 46 x 3) (h : a.eval x = .pointer (some ⟨g, off, none⟩)) : (execOp a.eval o).run Tryz.prog w = .ok (.value (.pointer (some ⟨g, off + 3, none⟩))) w := by
  unfold execOp
  simp only [ho, h]
  go_simp
theorem faRk4 {x : Operand} {g off : Nat} (ho : o.op = .fieldAddr 46 x 4) (h : a.eval x = .pointer (some ⟨g, off, none⟩)) : (execOp a.eval o).run Tryz.prog w = .ok (.value (.pointer (some ⟨g, off + 4, none⟩))) w := by
  unfold execOp
  simp only [ho, h]
  go_simp
theorem alCm (ho : o.op = .alloc 36) : (execOp a.eval o).run Tryz.prog w = .ok (.value (.pointer (some ⟨w.heap.size, 0, none⟩))) (w.alloc (.cells zcCm 36)) := by
  unfold zcCm
  unfold execOp
  simp only [ho]
  go_simp
theorem alLl (ho : o.op = .alloc 38) : (execOp a.eval o).run Tryz.prog w = .ok (.value (.pointer (some ⟨w.heap.size, 0, none⟩))) (w.alloc (.cells zcLl 38)) := by
  unfold zcLl
  unfold execOp
  simp only [ho]
  go_simp
theorem alTo (ho : o.op = .alloc 41) : (execOp a.eval o).run Tryz.prog w = .ok (.value (.pointer (some ⟨w.heap.size, 0, none⟩))) (w.alloc (.cells zcTo 41)) := by
  unfold zcTo
  unfold execOp
  simp only [ho]
  go_simp
theorem alFq (ho : o.op = .alloc 43) : (execOp a.eval o).run Tryz.prog w = .ok (.value (.pointer (some ⟨w.heap.size, 0, none⟩))) (w.alloc (.cells zcFq 43)) := by
  unfold zcFq
  unfold execOp
  simp only [ho]
  go_simp
theorem alRk (ho : o.op = .alloc 46) : (execOp a.eval o).run Tryz.prog w = .ok (.value (.pointer (some ⟨w.heap.size, 0, none⟩))) (w.alloc (.cells zcRk 46)) := by
  unfold zcRk
  unfold execOp
  simp only [ho]
  go_simp
theorem eq0i {x : Operand} {n : Int} (ho : o.op = .binOp .eql 3 x (.const (.int .i64 0)) 3) (h : a.eval x = .int .i64 n) : (execOp a.eval o).run Tryz.prog w = .ok (.value (.bool (decide (n = 0)))) w := by
  unfold execOp
  simp only [ho, h]
  go_simp
  rfl
theorem eq0u {x : Operand} {n : Int} (ho : o.op = .binOp .eql 30 x (.const (.int .u64 0)) 30) (h : a.eval x = .int .u64 n) : (execOp a.eval o).run Tryz.prog w = .ok (.value (.bool (decide (n = 0)))) w := by
  unfold execOp
  simp only [ho, h]
  go_simp
  rfl
theorem neqPm {x y : Operand} {k S D : Int} {z : Int} {k' S' D' z' : Int} (ho : o.op = .binOp .neq 32 x y 32) (h : a.eval x = .agg #[.int .i64 k, .int .i64 S, .int .i64 D, .int .u64 z]) (h2 : a.eval y = .agg #[.int .i64 k', .int .i64 S', .int .i64 D', .int .u64 z']) : (execOp a.eval o).run Tryz.prog w = .ok (.value (.bool (!(decide (k = k') && decide (S = S') && decide (D = D') && decide (z = z'))))) w := by
  unfold execOp
  simp only [ho, h, h2]
  go_simp
  by_cases h1 : k = k' <;> by_cases h2 : S = S' <;> by_cases h3 : D = D' <;> by_cases h4 : z = z' <;> simp [h1, h2, h3, h4]
theorem not_b {x : Operand} {y : Bool} (ho : o.op = .unOp .not 4 x) (h : a.eval x = .bool y) : (execOp a.eval o).run Tryz.prog w = .ok (.value (.bool (!y))) w := by
  unfold execOp
  simp only [ho, h]
  go_simp
theorem eqTa {x y : Operand} {n m : Int} {p : Bool} (ho : o.op = .binOp .eql 34 x y 34) (h : a.eval x = .agg #[.int .i64 n, .int .i64 m, .bool p]) (h2 : a.eval y = .agg #[.int .i64 0, .int .i64 0, .bool false]) : (execOp a.eval o).run Tryz.prog w = .ok (.value (.bool (decide (n = 0) && decide (m = 0) && !p))) w := by
  unfold execOp
  simp only [ho, h, h2]
  go_simp
  by_cases hn : n = 0 <;> by_cases hm : m = 0 <;> cases p <;> simp [hn, hm]
theorem zeTa (ho : o.op = .build 34 #[]) : (execOp a.eval o).run Tryz.prog w = .ok (.value (.agg #[.int .i64 0, .int .i64 0, .bool false])) w := by
  unfold execOp
  simp only [ho]
  go_simp
theorem lenli {x : Nat} {b : Option Addr} {n c : Nat} (ho : o.op = .call { callee := .builtin .len, args := #[.tmp x], argTypes := #[29] }) (h : a.eval (.tmp x) = .slice b n c) : (execOp a.eval o).run Tryz.prog w = .ok (.value (.int .i64 n)) w := by
  unfold execOp
  have h' : a.tmps[x]?.getD undef = .slice b n c := by rw [← h]; simp [Act.eval]
  clear h
  simp only [ho]
  go_simp
theorem lenle {x : Nat} {b : Option Addr} {n c : Nat} (ho : o.op = .call { callee := .builtin .len, args := #[.tmp x], argTypes := #[39] }) (h : a.eval (.tmp x) = .slice b n c) : (execOp a.eval o).run Tryz.prog w = .ok (.value (.int .i64 n)) w := by
  unfold execOp
  have h' : a.tmps[x]?.getD undef = .slice b n c := by rw [← h]; simp [Act.eval]
  clear h
  simp only [ho]
  go_simp
theorem lenls {x : Nat} {b : Option Addr} {n c : Nat} (ho : o.op = .call { callee := .builtin .len, args := #[.tmp x], argTypes := #[44] }) (h : a.eval (.tmp x) = .slice b n c) : (execOp a.eval o).run Tryz.prog w = .ok (.value (.int .i64 n)) w := by
  unfold execOp
  have h' : a.tmps[x]?.getD undef = .slice b n c := by rw [← h]; simp [Act.eval]
  clear h
  simp only [ho]
  go_simp
end
end Go.Proofs.YtjibbnknliamkaaGreatDoor
