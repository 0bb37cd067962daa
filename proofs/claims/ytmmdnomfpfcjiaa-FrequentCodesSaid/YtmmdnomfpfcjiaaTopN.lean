/- Summaries as numbers and lists; what makes one valid. A summary in memory. -/
import Derived.Test.YtmmdnomfpfcjiaaSrtN
import Derived.Test.YtmmdnomfpfcjiaaMapE
import Derived.Test.YtmmdnomfpfcjiaaItem
namespace Go.Proofs.Ytmmdnomfpfcjiaa
open Go.RowKit
set_option linter.unusedVariables false
set_option linter.unusedSimpArgs false
structure TP where
  S : Int
  T : Int
  L : List Ent
  s : Bool
def TP.none : TP := ⟨0, 0, [], false⟩
def WfT (t : TP) : Prop := (-9223372036854775808 ≤ t.S ∧ t.S ≤ 9223372036854775807) ∧ (-9223372036854775808 ≤ t.T ∧ t.T ≤ 9223372036854775807)
/-- A summary that can be read. -/
def RdT (t : TP) (v : Value) (w : World) : Prop := ∃ a n cap, v = .agg #[.int .i64 t.S, .int .i64 t.T, .slice a n cap, .bool t.s] ∧ RdE t.L (.slice a n cap) w
theorem RdT.below {t : TP} {v : Value} {w w' : World} (h : RdT t v w) (hb : Below w.heap.size w w') : RdT t v w' := by
  obtain ⟨a, n, cap, rfl, h⟩ := h
  exact ⟨a, n, cap, rfl, h.below hb⟩
/-- A summary of the call's own. -/
def OwnT (B : Nat) (t : TP) (v : Value) (w : World) : Prop := ∃ a n cap, v = .agg #[.int .i64 t.S, .int .i64 t.T, .slice a n cap, .bool t.s] ∧ OwnE B t.L (.slice a n cap) w
theorem OwnT.rd {B : Nat} {t : TP} {v : Value} {w : World} (h : OwnT B t v w) : RdT t v w := by
  obtain ⟨a, n, cap, rfl, h⟩ := h
  exact ⟨a, n, cap, rfl, h.rd⟩
theorem OwnT.below {B : Nat} {t : TP} {v : Value} {w w' : World} (h : OwnT B t v w) (hb : Below w.heap.size w w') : OwnT B t v w' := by
  obtain ⟨a, n, cap, rfl, h⟩ := h
  exact ⟨a, n, cap, rfl, h.below hb⟩
/-- A struct of four cells in memory: a summary. -/
def TopS (g : Nat) (S T : Int) (v : Value) (s : Bool) (w : World) : Prop :=
  (w.cell? ⟨g, 0, none⟩ = some (.int .i64 S) ∧ w.cell? ⟨g, 1, none⟩ = some (.int .i64 T) ∧ w.cell? ⟨g, 2, none⟩ = some v ∧ w.cell? ⟨g, 3, none⟩ = some (.bool s)) ∧
    w.frozen? ⟨g, 0, none⟩ = false ∧ w.frozen? ⟨g, 1, none⟩ = false ∧ w.frozen? ⟨g, 2, none⟩ = false ∧ w.frozen? ⟨g, 3, none⟩ = false
theorem TopS.keep {g : Nat} {S T : Int} {v : Value} {s : Bool} {w w' : World} (h : TopS g S T v s w) (hb : w'.heap[g]? = w.heap[g]?) : TopS g S T v s w' := by
  obtain ⟨⟨h0, h1, h2, h3⟩, f0, f1, f2, f3⟩ := h
  have hc : ∀ o, w'.cell? ⟨g, o, none⟩ = w.cell? ⟨g, o, none⟩ := fun o => World.cell?_of_block (w := w) (a := ⟨g, o, none⟩) hb
  have hf : ∀ o, w'.frozen? ⟨g, o, none⟩ = w.frozen? ⟨g, o, none⟩ := fun o => World.frozen?_of_block (w := w) (a := ⟨g, o, none⟩) hb
  exact ⟨⟨(hc _).trans h0, (hc _).trans h1, (hc _).trans h2, (hc _).trans h3⟩, (hf _).trans f0, (hf _).trans f1, (hf _).trans f2, (hf _).trans f3⟩
theorem TopS.below {g : Nat} {S T : Int} {v : Value} {s : Bool} {w w' : World} (h : TopS g S T v s w) {B : Nat} (hb : Below B w w') (hg : g < B) : TopS g S T v s w' := h.keep (hb.block g hg)
theorem TopS.new (S T : Int) (v : Value) (s : Bool) (t : TypeId) (w : World) : TopS w.heap.size S T v s (w.alloc (.cells #[.int .i64 S, .int .i64 T, v, .bool s] t)) := by
  exact ⟨⟨by go_simp, by go_simp, by go_simp, by go_simp⟩, by go_simp, by go_simp, by go_simp, by go_simp⟩
theorem TopS.lt {g : Nat} {S T : Int} {v : Value} {s : Bool} {w : World} (h : TopS g S T v s w) : g < w.heap.size := by
  have h0 := h.1.1
  unfold World.cell? at h0
  cases hb : w.heap[g]? with
  | none => simp [hb] at h0
  | some o => exact (Array.getElem?_eq_some_iff.1 hb).1
/-- What is wrong with an entry. -/
def entE (x : Ent) : Int := if keyB (byt x.k) = false then 7 else if x.c < 1 ∨ 1099511627776 < x.c ∨ x.e < 0 ∨ x.c ≤ x.e then 5 else 0
/-- What is wrong at position i. -/
def errAt (L : List Ent) (i : Nat) : Int :=
  if entE (L.getD i Ent.z) ≠ 0 then entE (L.getD i Ent.z) else if hasK (L.take i) (L.getD i Ent.z).k = true then 9 else if 0 < i ∧ bef (L.getD (i - 1) Ent.z) (L.getD i Ent.z) = false then 19 else 0
/-- The first error among the m entries from i on. -/
def vgo (L : List Ent) : Nat → Nat → Int
  | 0, _ => 0
  | m + 1, i => if errAt L i ≠ 0 then errAt L i else vgo L m (i + 1)
def valE (S T : Int) (L : List Ent) : Int := if S < 1 ∨ 32 < S ∨ T < 0 ∨ 1099511627776 < T then 5 else if S < L.length then 11 else vgo L L.length 0
/-- What a valid summary is. -/
structure Valid (S T : Int) (L : List Ent) : Prop where
  s0 : 1 ≤ S
  s1 : S ≤ 32
  t0 : 0 ≤ T
  t1 : T ≤ 1099511627776
  len : (L.length : Int) ≤ S
  ent : ∀ i, i < L.length → entE (L.getD i Ent.z) = 0
  one : ∀ i, i < L.length → hasK (L.take i) (L.getD i Ent.z).k = false
  ord : ∀ i, i + 1 < L.length → bef (L.getD i Ent.z) (L.getD (i + 1) Ent.z) = true
theorem entE_cases (x : Ent) : entE x = 0 ∨ entE x = 7 ∨ entE x = 5 := by
  unfold entE
  split
  · exact .inr (.inl rfl)
  · split
    · exact .inr (.inr rfl)
    · exact .inl rfl
theorem errAt_zero {L : List Ent} {i : Nat} (h : errAt L i = 0) : entE (L.getD i Ent.z) = 0 ∧ hasK (L.take i) (L.getD i Ent.z).k = false ∧ (0 < i → bef (L.getD (i - 1) Ent.z) (L.getD i Ent.z) = true) := by
  unfold errAt at h
  by_cases h1 : entE (L.getD i Ent.z) = 0
  · rw [if_neg (by simpa using h1)] at h
    by_cases h2 : hasK (L.take i) (L.getD i Ent.z).k = true
    · rw [if_pos h2] at h
      cases h
    · rw [if_neg h2] at h
      by_cases h3 : 0 < i ∧ bef (L.getD (i - 1) Ent.z) (L.getD i Ent.z) = false
      · rw [if_pos h3] at h
        cases h
      · refine ⟨h1, by simpa using h2, fun h4 => ?_⟩
        cases hb : bef (L.getD (i - 1) Ent.z) (L.getD i Ent.z) with
        | true => rfl
        | false => exact absurd ⟨h4, hb⟩ h3
  · rw [if_pos h1] at h
    exact absurd h h1
theorem vgo_zero (L : List Ent) : ∀ m i, vgo L m i = 0 → ∀ j, i ≤ j → j < i + m → errAt L j = 0
  | 0, i, _, j, h1, h2 => by omega
  | m + 1, i, h, j, h1, h2 => by
    unfold vgo at h
    by_cases he : errAt L i = 0
    · rw [if_neg (by simpa using he)] at h
      by_cases hj : j = i
      · subst hj; exact he
      · exact vgo_zero L m (i + 1) h j (by omega) (by omega)
    · rw [if_pos he] at h
      exact absurd h he
theorem valE_ok {S T : Int} {L : List Ent} (h : valE S T L = 0) : Valid S T L := by
  unfold valE at h
  by_cases h1 : S < 1 ∨ 32 < S ∨ T < 0 ∨ 1099511627776 < T
  · rw [if_pos h1] at h
    cases h
  · rw [if_neg h1] at h
    by_cases h2 : S < L.length
    · rw [if_pos h2] at h
      cases h
    · rw [if_neg h2] at h
      have h3 := vgo_zero L _ _ h
      refine ⟨by omega, by omega, by omega, by omega, by omega, fun i hi => (errAt_zero (h3 i (by omega) (by omega))).1, fun i hi => (errAt_zero (h3 i (by omega) (by omega))).2.1, fun i hi => ?_⟩
      have := (errAt_zero (h3 (i + 1) (by omega) (by omega))).2.2 (by omega)
      simpa using this
theorem vgo_all {L : List Ent} (m i : Nat) (h : ∀ j, i ≤ j → j < i + m → errAt L j = 0) : vgo L m i = 0 := by
  induction m generalizing i with
  | zero => rfl
  | succ m ih =>
    unfold vgo
    rw [if_neg (by simpa using h i (Nat.le_refl _) (by omega))]
    exact ih (i + 1) (fun j h1 h2 => h j (by omega) (by omega))
theorem valE_of {S T : Int} {L : List Ent} (h : Valid S T L) : valE S T L = 0 := by
  obtain ⟨s0, s1, t0, t1, l, e, o, r⟩ := h
  unfold valE
  rw [if_neg (by omega), if_neg (by omega)]
  refine vgo_all _ _ (fun j _ hj => ?_)
  unfold errAt
  rw [if_neg (by simpa using e j (by omega)), if_neg (by simpa using o j (by omega)), if_neg]
  rintro ⟨h0, h1⟩
  have := r (j - 1) (by omega)
  rw [show j - 1 + 1 = j by omega, h1] at this
  cases this
theorem valE_bd (S T : Int) (L : List Ent) : 0 ≤ valE S T L ∧ valE S T L ≤ 19 := by
  have he : ∀ i, 0 ≤ errAt L i ∧ errAt L i ≤ 19 := fun i => by
    unfold errAt
    rcases entE_cases (L.getD i Ent.z) with h | h | h <;> rw [h] <;> (split <;> first | omega | (split <;> first | omega | (split <;> omega)))
  have hv : ∀ m i, 0 ≤ vgo L m i ∧ vgo L m i ≤ 19 := fun m => by
    induction m with
    | zero => intro i; exact ⟨Int.le_refl _, by show (0 : Int) ≤ 19; decide⟩
    | succ m ih =>
      intro i
      unfold vgo
      split
      · exact he i
      · exact ih _
  unfold valE
  split
  · omega
  · split
    · omega
    · exact hv _ _
end Go.Proofs.Ytmmdnomfpfcjiaa
