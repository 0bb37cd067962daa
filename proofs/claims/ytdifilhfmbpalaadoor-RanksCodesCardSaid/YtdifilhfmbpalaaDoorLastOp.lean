/- A region that draws its order, where one operation comes last in every order: the others first, with a condition that speaks of them alone. No program. -/
import Derived.Deep.RegionHeld3
import Derived.Lib.Hide
namespace Go.Proofs.YtdifilhfmbpalaaDoor
open Go
set_option linter.unusedVariables false
set_option linter.unusedSimpArgs false
/-- Edges lead to operations ahead; guards too. -/
def edgesOk (ops : Array Oper) : Bool := (List.range ops.size).all fun j => match ops[j]? with
  | some x => (x.after.all fun e => decide (e.on < j)) && (match x.guard with | some (g, _) => decide (g < j) | none => true)
  | none => true
/-- What an operation waits for. -/
def depsOf (md : Region.Mode) (x : Oper) : List Nat := (x.after.toList.filter (Region.binds md)).map (·.on)
/-- .. the operations of s, and what those wait for. -/
def underOf (md : Region.Mode) (ops : Array Oper) (s : List Nat) : List Nat := s ++ s.flatMap fun j => match ops[j]? with
  | some x => depsOf md x
  | none => []
def underN (md : Region.Mode) (ops : Array Oper) : Nat → List Nat → List Nat
  | 0, s => s
  | n + 1, s => underN md ops n (underOf md ops s).eraseDups
def lastOk (md : Region.Mode) (l : Array Oper) (o : Oper) : Bool :=
  edgesOk (l.push o) && o.guard.isNone && (List.range l.size).all fun i => (underN md l l.size (depsOf md o)).contains i
def ClosedBy (md : Region.Mode) (ops : Array Oper) (listed : Array Bool) : Prop :=
  ∀ (j : Nat) (x : Oper), ops[j]? = some x → listed.getD j false = true → ∀ e ∈ x.after, Region.binds md e = true → listed.getD e.on false = true
section
variable {P : Program} {l : Array Oper} {o : Oper} {Q : Exit → Act → World → Prop} {md : Region.Mode}
/-- Behind the others: the last operation, then Q. -/
def lastQ (P : Program) (o : Oper) (Q : Exit → Act → World → Prop) (e : Exit) (a : Act) (w : World) : Prop :=
  match e with
  | .normal => ∀ K' : Act → World → Prop, Shut (∀ a w, Q .normal a w → K' a w) → o.wp P a w K' Q
  | e => Q e a w
theorem mem_deps {x : Oper} {j : Nat} : j ∈ depsOf md x ↔ ∃ e ∈ x.after, Region.binds md e = true ∧ e.on = j := by
  unfold depsOf
  simp only [List.mem_map, List.mem_filter, Array.mem_toList_iff]
  constructor
  · rintro ⟨e, ⟨h1, h2⟩, h3⟩; exact ⟨e, h1, h2, h3⟩
  · rintro ⟨e, h1, h2, h3⟩; exact ⟨e, ⟨h1, h2⟩, h3⟩
theorem push_lt {j : Nat} (h : j < l.size) : (l.push o)[j]? = l[j]? := by
  rw [Array.getElem?_push]
  rw [if_neg (by omega)]
theorem push_eq : (l.push o)[l.size]? = some o := by simp
theorem edges_of {ops : Array Oper} (h : edgesOk ops = true) {j : Nat} {x : Oper} (hx : ops[j]? = some x) : (∀ e ∈ x.after, e.on < j) ∧ ∀ g b, x.guard = some (g, b) → g < j := by
  unfold edgesOk at h
  rw [List.all_eq_true] at h
  have hj : j < ops.size := by
    rcases Nat.lt_or_ge j ops.size with h' | h'
    · exact h'
    · rw [Array.getElem?_eq_none h'] at hx; cases hx
  have h1 := h j (List.mem_range.2 hj)
  simp only [hx, Bool.and_eq_true] at h1
  refine ⟨fun e he => ?_, fun g b hg => ?_⟩
  · have := Array.all_eq_true_iff_forall_mem.1 h1.1 e he
    exact of_decide_eq_true this
  · have h2 := h1.2
    rw [hg] at h2
    exact of_decide_eq_true h2
theorem mem_eraseDups' {s : List Nat} {j : Nat} (h : j ∈ s.eraseDups) : j ∈ s := List.mem_eraseDups.1 h
theorem under_listed {listed : Array Bool} (hc : ClosedBy md l listed) : ∀ (n : Nat) (s : List Nat), (∀ j ∈ s, listed.getD j false = true) → ∀ j ∈ underN md l n s, listed.getD j false = true
  | 0, _, h => h
  | n + 1, s, h => by
    refine under_listed hc n _ (fun j hj => ?_)
    have hj := mem_eraseDups' hj
    unfold underOf at hj
    rcases List.mem_append.1 hj with hj | hj
    · exact h j hj
    · obtain ⟨i, hi, hj⟩ := List.mem_flatMap.1 hj
      cases hx : l[i]? with
      | none => rw [hx] at hj; cases hj
      | some x =>
        rw [hx] at hj
        obtain ⟨e, he, hb, rfl⟩ := mem_deps.1 hj
        exact hc i x hx (h i hi) e he hb
theorem wanted_same {x : Oper} {i : Nat} (h : edgesOk (l.push o) = true) (hi : i < l.size) (hx : l[i]? = some x) (tmps : Array Value) : Region.wanted x (yielded (l.push o) tmps) = Region.wanted x (yielded l tmps) := by
  have hg := (edges_of h (j := i) (x := x) (by rw [push_lt hi]; exact hx)).2
  unfold Region.wanted
  cases hgd : x.guard with
  | none => rfl
  | some gb =>
    obtain ⟨g, b⟩ := gb
    have := hg g b hgd
    dsimp only
    unfold yielded
    rw [push_lt (by omega)]
theorem upon_last (x : Oper) (a : Act) (next : Act → World → Prop) (r : Result Next) (h : x.upon P a next (lastQ P o Q) r) : x.upon P a next Q r := by
  cases r with
  | ok n w' =>
    cases n with
    | enter f args =>
      rw [Oper.upon_enter] at h ⊢
      refine Calls.mono h (fun e w'' he => ?_)
      cases e with
      | returned v => exact he
      | panicked c => exact he
      | outgrown => exact he
    | _ => exact h
  | halt x w' => cases x <;> exact h
theorem wpOp_last {i : Nat} {K K' : Act → World → Prop} {a : Act} {w : World} (he : edgesOk (l.push o) = true) (hi : i < l.size) (hK : ∀ a w, K a w → K' a w) (h : wpOp P l (lastQ P o Q) i K a w) : wpOp P (l.push o) Q i K' a w := by
  refine wpOp_mono hK ?_
  unfold wpOp at h ⊢
  rw [push_lt hi]
  cases hx : l[i]? with
  | none => rw [hx] at h; exact h
  | some x =>
    rw [hx] at h
    dsimp only at h ⊢
    rw [wanted_same he hi hx]
    split
    · rename_i hw
      rw [if_pos hw] at h
      rcases h with h | ⟨h1, h2⟩
      · exact .inl (upon_last x a _ _ h)
      · exact .inr ⟨h1, h2⟩
    · rename_i hw
      rw [if_neg hw] at h
      exact h
/-- A listing of all, and of all but the last. -/
structure Beside (n : Nat) (listed listed' : Array Bool) : Prop where
  s1 : listed.size = n + 1
  s2 : listed'.size = n
  eq : ∀ j, j < n → listed[j]? = listed'[j]?
theorem Beside.getD {n : Nat} {listed listed' : Array Bool} (h : Beside n listed listed') {j : Nat} (hj : j < n) (d : Bool) : listed.getD j d = listed'.getD j d := by
  have := h.eq j hj
  simp only [Array.getD_eq_getD_getElem?, this]
theorem Beside.set {n : Nat} {listed listed' : Array Bool} (h : Beside n listed listed') {i : Nat} (hi : i < n) : Beside n (listed.setIfInBounds i true) (listed'.setIfInBounds i true) := by
  refine ⟨by simp [h.s1], by simp [h.s2], fun j hj => ?_⟩
  rw [Array.getElem?_setIfInBounds, Array.getElem?_setIfInBounds, h.s1, h.s2, h.eq j hj]
  by_cases hij : i = j
  · rw [if_pos hij, if_pos hij, if_pos (by omega), if_pos (by omega)]
  · rw [if_neg hij, if_neg hij]
theorem getD_both {a : Array Bool} {j : Nat} (hj : j < a.size) (d d' : Bool) : a.getD j d = a.getD j d' := by
  simp only [Array.getD_eq_getD_getElem?, Array.getElem?_eq_getElem hj, Option.getD_some]
theorem ready_same (he : edgesOk (l.push o) = true) {listed listed' : Array Bool} (hb : Beside l.size listed listed') {i : Nat} (hi : i < l.size) : i ∈ Region.ready md (l.push o) listed ↔ i ∈ Region.ready md l listed' := by
  rw [mem_ready, mem_ready, push_lt hi, hb.getD hi]
  constructor
  · rintro ⟨h1, x, hx, h2⟩
    refine ⟨h1, x, hx, fun e hm hbd => ?_⟩
    have := (edges_of he (j := i) (x := x) (by rw [push_lt hi]; exact hx)).1 e hm
    rw [← hb.getD (by omega)]
    exact h2 e hm hbd
  · rintro ⟨h1, x, hx, h2⟩
    refine ⟨h1, x, hx, fun e hm hbd => ?_⟩
    have := (edges_of he (j := i) (x := x) (by rw [push_lt hi]; exact hx)).1 e hm
    rw [hb.getD (by omega)]
    exact h2 e hm hbd
theorem all_listed (he : edgesOk (l.push o) = true) {listed listed' : Array Bool} (hb : Beside l.size listed listed') (hr : Region.ready md l listed' = []) : ∀ i, i < l.size → listed.getD i false = true := by
  intro i
  induction i using Nat.strongRecOn with
  | _ i ih =>
    intro hi
    cases hl : listed.getD i false with
    | true => rfl
    | false =>
      exfalso
      have hm : i ∈ Region.ready md (l.push o) listed := by
        rw [mem_ready]
        refine ⟨by rw [getD_both (by rw [hb.s1]; omega) true false]; exact hl, l[i], by rw [push_lt hi]; exact Array.getElem?_eq_getElem hi, fun e hm hbd => ?_⟩
        have := (edges_of he (j := i) (x := l[i]) (by rw [push_lt hi]; exact Array.getElem?_eq_getElem hi)).1 e hm
        exact ih e.on this (by omega)
      have := (ready_same he hb hi).1 hm
      rw [hr] at this
      cases this
theorem closed_set {ops : Array Oper} {listed : Array Bool} (hc : ClosedBy md ops listed) {i : Nat} (hi : i ∈ Region.ready md ops listed) : ClosedBy md ops (listed.setIfInBounds i true) := by
  intro j x hx hl e he hb
  by_cases hij : i = j
  · subst hij
    obtain ⟨_, o', ho, h⟩ := mem_ready.1 hi
    rw [hx] at ho
    cases ho
    exact getD_set_true (h e he hb)
  · rw [getD_set_ne false hij] at hl
    exact getD_set_true (hc j x hx hl e he hb)
theorem lastQ_now {K' : Act → World → Prop} {a : Act} {w : World} (hg : o.guard = none) (h : lastQ P o Q .normal a w) (hK : ∀ a w, Q .normal a w → K' a w) : wpOp P (l.push o) Q l.size K' a w := by
  unfold wpOp
  rw [push_eq]
  dsimp only
  rw [if_pos (by unfold Region.wanted; rw [hg])]
  exact .inl (h K' hK)
theorem wpAny_last (hl : lastOk md l o = true) : ∀ (fuel : Nat) (listed listed' : Array Bool) (a : Act) (w : World), Beside l.size listed listed' → listed.getD l.size true = false → ClosedBy md (l.push o) listed →
    wpAny P md l (lastQ P o Q) fuel listed' a w → wpAny P md (l.push o) Q (fuel + 1) listed a w := by
  unfold lastOk at hl
  simp only [Bool.and_eq_true] at hl
  obtain ⟨⟨he, hg⟩, hu⟩ := hl
  have hg : o.guard = none := Option.isNone_iff_eq_none.1 hg
  rw [List.all_eq_true] at hu
  have hlt : ∀ {listed : Array Bool} {i : Nat}, listed.size = l.size + 1 → i ∈ Region.ready md (l.push o) listed → i < l.size ∨ i = l.size := fun hs hi => by
    obtain ⟨_, x, hx, _⟩ := mem_ready.1 hi
    have := (Array.getElem?_eq_some_iff.1 hx).1
    rw [Array.size_push] at this
    omega
  have hready : ∀ {listed : Array Bool}, listed.getD l.size true = false → (∀ i, i < l.size → listed.getD i false = true) → l.size ∈ Region.ready md (l.push o) listed := fun h1 h2 => by
    rw [mem_ready]
    exact ⟨h1, o, push_eq, fun e hm hb => h2 _ ((edges_of he push_eq).1 e hm)⟩
  have hdone : ∀ {listed : Array Bool} {a : Act} {w : World}, listed.size = l.size + 1 → (∀ i, i < l.size → listed.getD i false = true) → Region.ready md (l.push o) (listed.setIfInBounds l.size true) = [] := fun {listed _ _} hs h2 => by
    cases hr : Region.ready md (l.push o) (listed.setIfInBounds l.size true) with
    | nil => rfl
    | cons i rs =>
      exfalso
      have hm : i ∈ Region.ready md (l.push o) (listed.setIfInBounds l.size true) := by rw [hr]; simp
      have h3 := (mem_ready.1 hm).1
      rcases hlt (by simp [hs]) hm with h | h
      · rw [getD_set_ne true (by omega), getD_both (by omega) true false, h2 i h] at h3
        cases h3
      · subst h
        have h4 : (listed.setIfInBounds l.size true).getD l.size true = true := by
          simp only [Array.getD_eq_getD_getElem?, Array.getElem?_setIfInBounds]
          simp [hs]
        rw [h4] at h3
        cases h3
  have hend : ∀ {fuel : Nat} {listed listed' : Array Bool} {a : Act} {w : World}, Beside l.size listed listed' → listed.getD l.size true = false → Region.ready md l listed' = [] → lastQ P o Q .normal a w → wpAny P md (l.push o) Q (fuel + 1) listed a w := fun {fuel listed listed' a w} hb h0 hr hq => by
    have hall := all_listed he hb hr
    refine ⟨fun hn => ?_, fun i hi => ?_⟩
    · have := hready h0 hall
      rw [hn] at this
      cases this
    · rcases hlt hb.s1 hi with h | h
      · have := (ready_same he hb h).1 hi
        rw [hr] at this
        cases this
      · subst h
        exact lastQ_now hg hq (fun a w hQ => wpAny_done (hdone (a := a) (w := w) hb.s1 hall) hQ _)
  intro fuel
  induction fuel with
  | zero =>
    intro listed listed' a w hb h0 hc h
    exact hend hb h0 h.1 h.2
  | succ fuel ih =>
    intro listed listed' a w hb h0 hc h
    by_cases hr : Region.ready md l listed' = []
    · exact hend hb h0 hr (h.1 hr)
    · obtain ⟨i0, hi0⟩ := List.exists_mem_of_ne_nil _ hr
      have hi0l : i0 < l.size := by
        obtain ⟨_, x, hx, _⟩ := mem_ready.1 hi0
        exact (Array.getElem?_eq_some_iff.1 hx).1
      have hnot : ¬ l.size ∈ Region.ready md (l.push o) listed := fun hm => by
        obtain ⟨_, o', ho, hdep⟩ := mem_ready.1 hm
        rw [push_eq] at ho
        cases ho
        have hcl : ClosedBy md l listed := fun j x hx => hc j x (by
          rw [push_lt (Array.getElem?_eq_some_iff.1 hx).1]; exact hx)
        have hl0 := under_listed hcl l.size (depsOf md o) (fun j hj => by
          obtain ⟨e, h1, h2, rfl⟩ := mem_deps.1 hj
          exact hdep e h1 h2) i0 (List.contains_iff_mem.1 (hu i0 (List.mem_range.2 hi0l)))
        have h1 := (mem_ready.1 hi0).1
        rw [← hb.getD hi0l, getD_both (by rw [hb.s1]; omega) true false, hl0] at h1
        cases h1
      refine ⟨fun hn => ?_, fun i hi => ?_⟩
      · have := (ready_same he hb hi0l).2 hi0
        rw [hn] at this
        cases this
      · rcases hlt hb.s1 hi with h' | h'
        · have hi' := (ready_same he hb h').1 hi
          refine wpOp_last he h' (fun a' w' h2 => ?_) (h.2 i hi')
          exact ih _ _ a' w' (hb.set h') (by rw [getD_set_ne true (by omega)]; exact h0) (closed_set hc hi) h2
        · subst h'
          exact absurd hi hnot
end
/-- The law: all operations but the last in whatever order, under S; then the last. -/
theorem wp_region_last {P : Program} {Q : Exit → Act → World → Prop} {S : World → Prop} {id : Nat} {a : Act} {w : World} {L : List Oper} (hn : L ≠ []) (hm : P.follows .mixedOrders = true)
    (hl : lastOk .any L.dropLast.toArray (L.getLast hn) = true) (hS : S w.drew)
    (h : S w.drew → wpAnyH P .any L.dropLast.toArray (lastQ P (L.getLast hn) Q) S L.dropLast.toArray.size (Array.replicate L.dropLast.toArray.size false) a w.drew) : (Code.region id L.toArray true).wp P Q a w := by
  have he : L.toArray = L.dropLast.toArray.push (L.getLast hn) := by
    rw [List.push_toArray, List.dropLast_concat_getLast]
  rw [he]
  refine wp_region_any hm ?_
  rw [Array.size_push]
  refine wpAny_last hl _ _ _ _ _ ⟨by simp, by simp, fun j hj => ?_⟩ ?_ (fun j x hx hl => ?_) (wpAny_of_held _ _ _ _ (h hS))
  · rw [Array.getElem?_replicate, Array.getElem?_replicate, if_pos (by omega), if_pos hj]
  · simp only [Array.getD_eq_getD_getElem?, Array.getElem?_replicate]
    rw [if_pos (by omega)]
    rfl
  · simp only [Array.getD_eq_getD_getElem?, Array.getElem?_replicate] at hl
    split at hl <;> cases hl
end Go.Proofs.YtdifilhfmbpalaaDoor
