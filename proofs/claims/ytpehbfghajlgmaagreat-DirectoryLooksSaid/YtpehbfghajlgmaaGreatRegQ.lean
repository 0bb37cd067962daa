/- Regions that draw their order: by the order of the text where the world stays in a class; and allocations beside reads. No program. -/
import Derived.Deep.Quiet
import Derived.Deep.RegionHeld3
import Derived.Below
import Derived.Lib.Hide
namespace Go.Proofs.YtpehbfghajlgmaaGreat
open Go Go.RowKit
set_option linter.unusedVariables false
set_option linter.unusedSimpArgs false
section
variable {P : Program} {ops : Array Oper} {md : Region.Mode} {C : World → Prop} {Q : Act → Prop} {a : Act} {o : Oper} {rest : List Oper}
theorem eval_put_ne {d x : Nat} {v : Value} (h : d ≠ x) : (a.put (some d) v).eval (.tmp x) = a.eval (.tmp x) := by
  simp only [Act.put, Act.eval, Array.getD_eq_getD_getElem?, Array.getElem?_setIfInBounds, if_neg h]
theorem eval_put_eq {d : Nat} {v : Value} (h : d < a.tmps.size) : (a.put (some d) v).eval (.tmp d) = v := by
  simp only [Act.put, Act.eval, Array.getD_eq_getD_getElem?, Array.getElem?_setIfInBounds, if_pos rfl, if_pos h]
  rfl
theorem size_put {d : Option Nat} {v : Value} : (a.put d v).tmps.size = a.tmps.size := by
  cases d <;> simp [Act.put]
/-- An operation that is carried out if p. -/
theorem wpQuiet_if {p : Bool} {v : Value} (hw : Region.wanted o (yielded ops a.tmps) = p) (hv : p = true → ∀ w, C w → o.quietAt P a C w v) (h : wpQuiet P ops C Q rest (a.put o.dst (if p = true then v else undef))) : wpQuiet P ops C Q (o :: rest) a := by
  show if Region.wanted o (yielded ops a.tmps) = true then _ else _
  rw [hw]
  cases p
  · simpa using h
  · rw [if_pos rfl]
    exact ⟨v, hv rfl, by simpa using h⟩
/-- One that no guard keeps. -/
theorem wpQuiet_do {v : Value} (hg : o.guard = none) (hv : ∀ w, C w → o.quietAt P a C w v) (h : wpQuiet P ops C Q rest (a.put o.dst v)) : wpQuiet P ops C Q (o :: rest) a := by
  refine wpQuiet_if (p := true) (by unfold Region.wanted; rw [hg]) (fun _ => hv) (by simpa using h)
/-- A guard that a slot decides. -/
theorem wanted_of {j m : Nat} {x : Oper} {p : Bool} (hg : o.guard = some (j, true)) (hj : ops[j]? = some x) (hd : x.dst = some m) (hm : a.eval (.tmp m) = .bool p) : Region.wanted o (yielded ops a.tmps) = p := by
  unfold Region.wanted
  rw [hg]
  unfold yielded
  simp only [hj, Option.bind_some, hd]
  unfold Act.eval at hm
  simp only [Array.getD_eq_getD_getElem?] at hm
  cases h : a.tmps[m]? with
  | none => rw [h] at hm; cases hm
  | some y =>
    rw [h] at hm
    simp only [Option.getD_some] at hm
    subst hm
    cases p <;> rfl
/-- .. where it wants the slot to be false. -/
theorem wanted_not {j m : Nat} {x : Oper} {p : Bool} (hg : o.guard = some (j, false)) (hj : ops[j]? = some x) (hd : x.dst = some m) (hm : a.eval (.tmp m) = .bool p) : Region.wanted o (yielded ops a.tmps) = !p := by
  unfold Region.wanted
  rw [hg]
  unfold yielded
  simp only [hj, Option.bind_some, hd]
  unfold Act.eval at hm
  simp only [Array.getD_eq_getD_getElem?] at hm
  cases h : a.tmps[m]? with
  | none => rw [h] at hm; cases hm
  | some y =>
    rw [h] at hm
    simp only [Option.getD_some] at hm
    subst hm
    cases p <;> rfl
/-- What is answered with a value in the same world. -/
theorem quiet_value {w : World} {v : Value} (h : (execOp a.eval o).run P w = .ok (.value v) w) : o.quietAt P a C w v := by
  unfold Oper.quietAt
  rw [h]
  exact ⟨rfl, rfl⟩
/-- A call. -/
theorem quiet_enter {w : World} {v : Value} {f : FuncId} {args : Array Value} (h : (execOp a.eval o).run P w = .ok (.enter f args) w) (hc : Calls P f args w fun e w' => e = .returned v ∧ C w') : o.quietAt P a C w v := by
  unfold Oper.quietAt
  rw [h]
  exact ⟨rfl, hc⟩
end
/-- All of a list have come up. -/
def allOn (listed : Array Bool) (rs : List Nat) : Array Bool := rs.foldl (fun l i => l.setIfInBounds i true) listed
/-- .. with their values. -/
def allPut (a : Act) (rs : List Nat) (D : Nat → Nat) (V : Nat → Value) : Act := rs.foldl (fun a i => a.put (some (D i)) (V i)) a
theorem allOn_perm {rs rs' : List Nat} (h : rs.Perm rs') (listed : Array Bool) : allOn listed rs = allOn listed rs' := by
  unfold allOn
  refine h.foldl_eq' (fun x _ y _ z => ?_) _
  by_cases hxy : x = y
  · rw [hxy]
  · exact Array.setIfInBounds_comm _ _ hxy
theorem allPut_perm {rs rs' : List Nat} {D : Nat → Nat} {V : Nat → Value} (h : rs.Perm rs') (hD : ∀ i ∈ rs, ∀ j ∈ rs, D i = D j → i = j) (a : Act) : allPut a rs D V = allPut a rs' D V := by
  unfold allPut
  refine h.foldl_eq' (fun x hx y hy z => ?_) _
  by_cases hxy : x = y
  · rw [hxy]
  · exact (Act.put_comm z (x := some (D x)) (y := some (D y)) (V x) (V y) (fun d hd hd' => hxy (hD x hx y hy ((Option.some.inj hd).trans (Option.some.inj hd').symm))))
theorem allPut_congr {D : Nat → Nat} {V V' : Nat → Value} : ∀ (rs : List Nat) (a : Act), (∀ i ∈ rs, V i = V' i) → allPut a rs D V = allPut a rs D V'
  | [], _, _ => rfl
  | i :: rs, a, h => by
    unfold allPut
    simp only [List.foldl_cons]
    rw [h i List.mem_cons_self]
    exact allPut_congr rs _ (fun j hj => h j (List.mem_cons_of_mem _ hj))
section
variable {P : Program} {ops : Array Oper} {md : Region.Mode} {Q : Exit → Act → World → Prop} {S : World → Prop}
/-- Frames alike but in some slots. -/
def AlikeBut (D : Nat → Nat) (rs : List Nat) (a0 a : Act) : Prop := ∀ x, (∀ i ∈ rs, D i ≠ x) → a.eval (.tmp x) = a0.eval (.tmp x)
/-- Number i makes a variable, or yields one value whatever has been made. -/
def Makes (P : Program) (ops : Array Oper) (md : Region.Mode) (listed0 : Array Bool) (D : Nat → Nat) (all : List Nat) (a0 : Act) (w0 : World) (M : Nat → Option (TypeId × Array Value)) (v : Nat → Value) (i : Nat) : Prop :=
  ∃ o, ops[i]? = some o ∧ o.guard = none ∧ o.dst = some (D i) ∧ (∀ e ∈ o.after, Region.binds md e = true → listed0.getD e.on false = true) ∧
    match M i with
    | some (T, Z) => ∀ (a : Act) (w : World), (execOp a.eval o).run P w = .ok (.value (.pointer (some ⟨w.heap.size, 0, none⟩))) (w.alloc (.cells Z T))
    | none => ∀ (a : Act) (w : World), AlikeBut D all a0 a → Below w0.heap.size w0 w → (execOp a.eval o).run P w = .ok (.value (v i)) w
/-- What number i leaves, its block being G i. -/
def madeV (M : Nat → Option (TypeId × Array Value)) (v : Nat → Value) (G : Nat → Nat) (i : Nat) : Value :=
  match M i with
  | some _ => .pointer (some ⟨G i, 0, none⟩)
  | none => v i
theorem wpAnyH_makes {listed0 : Array Bool} {D : Nat → Nat} {all : List Nat} {a0 : Act} {w0 : World} {M : Nat → Option (TypeId × Array Value)} {v : Nat → Value} (hD : ∀ i ∈ all, ∀ j ∈ all, D i = D j → i = j) {fuel : Nat} (hS : ∀ w', Below w0.heap.size w0 w' → S w') :
    ∀ (n : Nat) (rs : List Nat), rs.length = n → rs.Nodup → (∀ i ∈ rs, i ∈ all) → (∀ i ∈ rs, Makes P ops md listed0 D all a0 w0 M v i) →
      ∀ (listed : Array Bool) (a : Act) (w : World), (∀ j, listed0.getD j false = true → listed.getD j false = true) → (∀ i ∈ rs, i < listed.size ∧ listed.getD i true = false) →
        (∀ j o, ops[j]? = some o → j ∉ rs → listed.getD j true = false → ∀ i ∈ rs, ∃ e ∈ o.after, Region.binds md e = true ∧ e.on = i) →
        AlikeBut D all a0 a → Below w0.heap.size w0 w →
        (∀ (G : Nat → Nat) (w' : World), (∀ i ∈ rs, ∀ T Z, M i = some (T, Z) → w.heap.size ≤ G i ∧ w'.heap[G i]? = some (.cells Z T (0, 0))) → (∀ i ∈ rs, ∀ j ∈ rs, M i ≠ none → M j ≠ none → i ≠ j → G i ≠ G j) → Below w.heap.size w w' → wpAnyH P md ops Q S fuel (allOn listed rs) (allPut a rs D (madeV M v G)) w') →
        wpAnyH P md ops Q S (fuel + n) listed a w
  | 0, rs, hn, _, _, _, listed, a, w, _, _, _, _, _, H => by
    have hr : rs = [] := List.eq_nil_of_length_eq_zero hn
    subst hr
    exact H (fun _ => 0) w (fun i hi => by cases hi) (fun i hi => by cases hi) (Below.refl _ _)
  | n + 1, rs, hn, hnd, hall, hm, listed, a, w, hl0, hun, hwait, hal, hbe, H => by
    have hmr : ∀ i, i ∈ Region.ready md ops listed ↔ listed.getD i true = false ∧ ∃ o, ops[i]? = some o ∧ ∀ e ∈ o.after, Region.binds md e = true → listed.getD e.on false = true := fun i => mem_ready
    obtain ⟨k, hk⟩ : ∃ k, k ∈ rs := by
      cases rs with
      | nil => simp at hn
      | cons k rs => exact ⟨k, List.mem_cons_self⟩
    refine wpAnyH_all (rs := Region.ready md ops listed) rfl ?_ ?_
    · intro h0
      obtain ⟨o, ho, hg, hd, haf, -⟩ := hm k hk
      have : k ∈ Region.ready md ops listed := (hmr k).2 ⟨(hun k hk).2, o, ho, fun e he hb => hl0 _ (haf e he hb)⟩
      rw [h0] at this
      cases this
    · intro i hi
      obtain ⟨hiu, o, ho, hdep⟩ := (hmr i).1 hi
      by_cases hir : i ∈ rs
      · obtain ⟨o', ho', hg, hd, haf, hrun⟩ := hm i hir
        rw [ho] at ho'
        simp only [Option.some.injEq] at ho'
        subst ho'
        have hin : i < listed.size := (hun i hir).1
        have hlen : (rs.erase i).length = n := by rw [List.length_erase_of_mem hir]; omega
        have hme : ∀ j, j ∈ rs.erase i ↔ j ≠ i ∧ j ∈ rs := fun j => hnd.mem_erase_iff
        have hset : ∀ j, (listed.setIfInBounds i true).getD j false = if i = j then true else listed.getD j false := fun j => by
          simp only [Array.getD_eq_getD_getElem?, Array.getElem?_setIfInBounds]
          by_cases hij : i = j
          · subst hij; simp [hin]
          · simp [hij]
        have hset' : ∀ j, (listed.setIfInBounds i true).getD j true = if i = j then true else listed.getD j true := fun j => by
          simp only [Array.getD_eq_getD_getElem?, Array.getElem?_setIfInBounds]
          by_cases hij : i = j
          · subst hij; simp [hin]
          · simp [hij]
        have hstep : ∀ (u : Value) (w1 : World), Below w.heap.size w w1 → (∀ T Z, M i = some (T, Z) → u = .pointer (some ⟨w.heap.size, 0, none⟩) ∧ w1.heap[w.heap.size]? = some (.cells Z T (0, 0)) ∧ w.heap.size < w1.heap.size) → (M i = none → u = v i) → wpAnyH P md ops Q S (fuel + n) (listed.setIfInBounds i true) (a.put (some (D i)) u) w1 := by
          intro u w1 hb1 hA hN
          refine wpAnyH_makes hD hS n (rs.erase i) hlen (hnd.erase i) (fun j hj => hall j ((hme j).1 hj).2) (fun j hj => hm j ((hme j).1 hj).2) _ _ _ ?_ ?_ ?_ ?_ ?_ ?_
          · intro j hj
            rw [hset]
            split
            · rfl
            · exact hl0 j hj
          · intro j hj
            obtain ⟨h1, h2⟩ := (hme j).1 hj
            refine ⟨by simpa using (hun j h2).1, ?_⟩
            rw [hset', if_neg (Ne.symm h1)]
            exact (hun j h2).2
          · intro j o' ho' hj hjl x hx
            rw [hset'] at hjl
            by_cases hij : i = j
            · rw [if_pos hij] at hjl; cases hjl
            · rw [if_neg hij] at hjl
              exact hwait j o' ho' (fun h => hj ((hme j).2 ⟨Ne.symm hij, h⟩)) hjl x ((hme x).1 hx).2
          · intro x hx
            rw [eval_put_ne (hx i (hall i hir))]
            exact hal x hx
          · exact ⟨hb1.os.trans hbe.os, hb1.tape.trans hbe.tape, hb1.output.trans hbe.output, Nat.le_trans hbe.size hb1.size, fun b hb => (hb1.block b (Nat.lt_of_lt_of_le hb hbe.size)).trans (hbe.block b hb)⟩
          · intro G w' hG1 hG2 hbw
            let G' : Nat → Nat := fun j => if j = i then w.heap.size else G j
            have hGi : G' i = w.heap.size := if_pos rfl
            have hGj : ∀ j, j ≠ i → G' j = G j := fun j hj => if_neg hj
            have hsz : w.heap.size ≤ w1.heap.size := hb1.size
            have := H G' w' (fun j hj T Z hMj => ?_) (fun x hx y hy hMx hMy hxy => ?_) ⟨hbw.os.trans hb1.os, hbw.tape.trans hb1.tape, hbw.output.trans hb1.output, Nat.le_trans hb1.size hbw.size, fun b hb => (hbw.block b (Nat.lt_of_lt_of_le hb hb1.size)).trans (hb1.block b hb)⟩
            · have e1 : allOn listed rs = allOn (listed.setIfInBounds i true) (rs.erase i) := by
                rw [allOn_perm (List.perm_cons_erase hir) listed]
                rfl
              have e2 : allPut a rs D (madeV M v G') = allPut (a.put (some (D i)) u) (rs.erase i) D (madeV M v G) := by
                rw [allPut_perm (List.perm_cons_erase hir) (fun x hx y hy => hD x (hall x hx) y (hall y hy)) a]
                show allPut (a.put (some (D i)) (madeV M v G' i)) (rs.erase i) D (madeV M v G') = _
                have hu : madeV M v G' i = u := by
                  unfold madeV
                  cases hMi : M i with
                  | none => exact (hN hMi).symm
                  | some TZ => rw [(hA TZ.1 TZ.2 hMi).1]; simp only [hGi]
                rw [hu]
                refine allPut_congr _ _ (fun x hx => ?_)
                unfold madeV
                rw [hGj x ((hme x).1 hx).1]
              rw [← e1, ← e2]
              exact this
            · by_cases hji : j = i
              · subst hji
                rw [hGi]
                obtain ⟨-, h2, h3⟩ := hA T Z hMj
                exact ⟨Nat.le_refl _, (hbw.block _ h3).trans h2⟩
              · rw [hGj j hji]
                obtain ⟨h1, h2⟩ := hG1 j ((hme j).2 ⟨hji, hj⟩) T Z hMj
                exact ⟨Nat.le_trans hsz h1, h2⟩
            · by_cases hxi : x = i
              · subst hxi
                have hyi : y ≠ x := Ne.symm hxy
                rw [hGi, hGj y hyi]
                cases hMx' : M x with
                | none => exact absurd hMx' hMx
                | some TZ =>
                  cases hMy' : M y with
                  | none => exact absurd hMy' hMy
                  | some UY =>
                    obtain ⟨-, -, h3⟩ := hA TZ.1 TZ.2 hMx'
                    have := (hG1 y ((hme y).2 ⟨hyi, hy⟩) UY.1 UY.2 hMy').1
                    omega
              · rw [hGj x hxi]
                by_cases hyi : y = i
                · subst hyi
                  rw [hGi]
                  cases hMx' : M x with
                  | none => exact absurd hMx' hMx
                  | some TZ =>
                    cases hMy' : M y with
                    | none => exact absurd hMy' hMy
                    | some UY =>
                      obtain ⟨-, -, h3⟩ := hA UY.1 UY.2 hMy'
                      have := (hG1 x ((hme x).2 ⟨hxi, hx⟩) TZ.1 TZ.2 hMx').1
                      omega
                · rw [hGj y hyi]
                  exact hG2 x ((hme x).2 ⟨hxi, hx⟩) y ((hme y).2 ⟨hyi, hy⟩) hMx hMy hxy
        refine wpOp_step ho (fun K' hK => ?_)
        rw [if_pos (by unfold Region.wanted; rw [hg])]
        unfold Oper.wp
        cases hMi : M i with
        | none =>
          rw [hMi] at hrun
          rw [hrun a w hal hbe]
          show K' (a.put o.dst (v i)) w
          rw [hd]
          exact hK _ _ ⟨hS _ hbe, hstep _ _ (Below.refl _ _) (fun T Z h => by rw [hMi] at h; cases h) (fun _ => rfl)⟩
        | some TZ =>
          rw [hMi] at hrun
          rw [hrun a w]
          show K' (a.put o.dst _) _
          rw [hd]
          refine hK _ _ ⟨hS _ ⟨hbe.os, hbe.tape, hbe.output, Nat.le_trans hbe.size (by simp), fun b hb => (heap_alloc_old w _ b (Nat.lt_of_lt_of_le hb hbe.size)).trans (hbe.block b hb)⟩, hstep _ _ ((Below.refl _ _).alloc (Nat.le_refl _) _) (fun T Z h => ?_) (fun h => by rw [hMi] at h; cases h)⟩
          rw [hMi] at h
          simp only [Option.some.injEq] at h
          subst h
          exact ⟨rfl, heap_alloc_new w _, by simp⟩
      · exfalso
        obtain ⟨e, he, hb, heq⟩ := hwait i o ho hir hiu k hk
        have h1 := hdep e he hb
        rw [heq] at h1
        have h2 := (hun k hk).2
        simp only [Array.getD_eq_getD_getElem?] at h1 h2
        cases hl : listed[k]? with
        | none => rw [hl] at h1; cases h1
        | some b => rw [hl] at h1 h2; simp at h1 h2; rw [h1] at h2; cases h2
/-- Everything else waits for the list. -/
def waitB (md : Region.Mode) (ops : Array Oper) (listed : Array Bool) (rs : List Nat) : Bool :=
  (List.range ops.size).all fun j => rs.contains j || listed.getD j true || (match ops[j]? with
    | some o => rs.all fun i => o.after.any fun e => Region.binds md e && e.on == i
    | none => true)
theorem waitB_spec {listed : Array Bool} {rs : List Nat} (h : waitB md ops listed rs = true) : ∀ j o, ops[j]? = some o → j ∉ rs → listed.getD j true = false → ∀ i ∈ rs, ∃ e ∈ o.after, Region.binds md e = true ∧ e.on = i := by
  intro j o ho hj hl i hi
  have hlt : j < ops.size := (Array.getElem?_eq_some_iff.1 ho).1
  unfold waitB at h
  rw [List.all_eq_true] at h
  have h1 := h j (List.mem_range.2 hlt)
  rw [hl, ho] at h1
  simp only [Bool.or_false, Bool.or_eq_true] at h1
  rcases h1 with h1 | h1
  · exact absurd (by simpa using h1) hj
  · rw [List.all_eq_true] at h1
    have h2 := h1 i hi
    obtain ⟨e, he, hb⟩ := Array.any_eq_true'.1 h2
    simp only [Bool.and_eq_true, beq_iff_eq] at hb
    exact ⟨e, he, hb.1, hb.2⟩
/-- What it waits for has come up. -/
def depB (md : Region.Mode) (o : Oper) (listed : Array Bool) : Bool := o.after.all fun e => !Region.binds md e || listed.getD e.on false
theorem depB_spec {o : Oper} {listed : Array Bool} (h : depB md o listed = true) : ∀ e ∈ o.after, Region.binds md e = true → listed.getD e.on false = true := by
  intro e he hb
  have h1 := Array.all_eq_true_iff_forall_mem.1 h e he
  rw [hb] at h1
  simpa using h1
def freeB (listed : Array Bool) (rs : List Nat) : Bool := rs.all fun i => decide (i < listed.size) && !listed.getD i true
theorem freeB_spec {listed : Array Bool} {rs : List Nat} (h : freeB listed rs = true) : ∀ i ∈ rs, i < listed.size ∧ listed.getD i true = false := by
  intro i hi
  unfold freeB at h
  rw [List.all_eq_true] at h
  have := h i hi
  simpa using this
/-- The beginning: reads that are ready and variables that are made, in whatever order. -/
theorem wpAnyH_begin {D : Nat → Nat} {rs : List Nat} {a : Act} {w : World} {M : Nat → Option (TypeId × Array Value)} {v : Nat → Value} {fuel : Nat} {listed : Array Bool}
    (hD : ∀ i ∈ rs, ∀ j ∈ rs, D i = D j → i = j) (hnd : rs.Nodup) (hm : ∀ i ∈ rs, Makes P ops md listed D rs a w M v i) (hS : ∀ w', Below w.heap.size w w' → S w') (hf : freeB listed rs = true) (hwt : waitB md ops listed rs = true)
    (H : ∀ (G : Nat → Nat) (w' : World), (∀ i ∈ rs, ∀ T Z, M i = some (T, Z) → w.heap.size ≤ G i ∧ w'.heap[G i]? = some (.cells Z T (0, 0))) → (∀ i ∈ rs, ∀ j ∈ rs, M i ≠ none → M j ≠ none → i ≠ j → G i ≠ G j) → Below w.heap.size w w' → wpAnyH P md ops Q S fuel (allOn listed rs) (allPut a rs D (madeV M v G)) w') :
    wpAnyH P md ops Q S (fuel + rs.length) listed a w :=
  wpAnyH_makes hD hS rs.length rs rfl hnd (fun _ h => h) hm listed a w (fun _ h => h) (freeB_spec hf) (waitB_spec hwt) (fun _ _ => rfl) (Below.refl _ _) H
theorem allPut_other {D : Nat → Nat} {V : Nat → Value} {x : Nat} : ∀ (rs : List Nat) (a : Act), (∀ i ∈ rs, D i ≠ x) → (allPut a rs D V).eval (.tmp x) = a.eval (.tmp x)
  | [], _, _ => rfl
  | i :: rs, a, h => by
    show (allPut (a.put (some (D i)) (V i)) rs D V).eval (.tmp x) = _
    rw [allPut_other rs _ (fun j hj => h j (List.mem_cons_of_mem _ hj)), eval_put_ne (h i List.mem_cons_self)]
theorem allPut_size {D : Nat → Nat} {V : Nat → Value} : ∀ (rs : List Nat) (a : Act), (allPut a rs D V).tmps.size = a.tmps.size
  | [], _ => rfl
  | i :: rs, a => by
    show (allPut (a.put (some (D i)) (V i)) rs D V).tmps.size = _
    rw [allPut_size rs, size_put]
theorem allPut_defers {D : Nat → Nat} {V : Nat → Value} : ∀ (rs : List Nat) (a : Act), (allPut a rs D V).defers = a.defers
  | [], _ => rfl
  | i :: rs, a => by
    show (allPut (a.put (some (D i)) (V i)) rs D V).defers = _
    rw [allPut_defers rs]
    rfl
theorem allPut_at {D : Nat → Nat} {V : Nat → Value} {k : Nat} : ∀ (rs : List Nat) (a : Act), (∀ i ∈ rs, ∀ j ∈ rs, D i = D j → i = j) → rs.Nodup → k ∈ rs → D k < a.tmps.size → (allPut a rs D V).eval (.tmp (D k)) = V k
  | [], _, _, _, h, _ => by cases h
  | i :: rs, a, hD, hnd, hk, hs => by
    show (allPut (a.put (some (D i)) (V i)) rs D V).eval (.tmp (D k)) = _
    obtain ⟨hn1, hn2⟩ := List.nodup_cons.1 hnd
    by_cases hik : k ∈ rs
    · exact allPut_at rs _ (fun x hx y hy => hD x (List.mem_cons_of_mem _ hx) y (List.mem_cons_of_mem _ hy)) hn2 hik (by rw [size_put]; exact hs)
    · have : k = i := (List.mem_cons.1 hk).elim id (fun h => absurd h hik)
      subst this
      rw [allPut_other rs _ (fun j hj e => hn1 (by have := hD j (List.mem_cons_of_mem _ hj) k List.mem_cons_self e; rw [← this]; exact hj)), eval_put_eq hs]
theorem wp_genW {c : Code} {a : Act} {w : World} (F : World → Prop) (h : F w) (H : ∀ w, F w → Code.wp P c Q a w) : Code.wp P c Q a w := H w h
theorem wp_gen {c : Code} {a : Act} {w : World} (F : Act → World → Prop) (h : F a w) (H : ∀ a w, F a w → Code.wp P c Q a w) : Code.wp P c Q a w := H a w h
end
end Go.Proofs.YtpehbfghajlgmaaGreat
