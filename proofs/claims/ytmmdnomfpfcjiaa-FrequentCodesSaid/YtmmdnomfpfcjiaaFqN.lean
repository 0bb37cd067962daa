/- Frequent's summaries as numbers and lists; what makes one valid. A summary in memory. -/
import Derived.Test.YtmmdnomfpfcjiaaRVal
namespace Go.Proofs.Ytmmdnomfpfcjiaa
open Go.RowKit
set_option linter.unusedVariables false
set_option linter.unusedSimpArgs false
structure FQ where
  S : Int
  T : Int
  K : Int
  L : List Ent
  s : Bool
def FQ.none : FQ := ⟨0, 0, 0, [], false⟩
def WfQ (t : FQ) : Prop := (-9223372036854775808 ≤ t.S ∧ t.S ≤ 9223372036854775807) ∧ (-9223372036854775808 ≤ t.T ∧ t.T ≤ 9223372036854775807) ∧ (-9223372036854775808 ≤ t.K ∧ t.K ≤ 9223372036854775807)
/-- A summary that can be read. -/
def RdQ (t : FQ) (v : Value) (w : World) : Prop := ∃ a n cap, v = .agg #[.int .i64 t.S, .int .i64 t.T, .int .i64 t.K, .slice a n cap, .bool t.s] ∧ RdE t.L (.slice a n cap) w
theorem RdQ.below {t : FQ} {v : Value} {w w' : World} (h : RdQ t v w) (hb : Below w.heap.size w w') : RdQ t v w' := by
  obtain ⟨a, n, cap, rfl, h⟩ := h
  exact ⟨a, n, cap, rfl, h.below hb⟩
/-- A summary of the call's own. -/
def OwnQ (B : Nat) (t : FQ) (v : Value) (w : World) : Prop := ∃ a n cap, v = .agg #[.int .i64 t.S, .int .i64 t.T, .int .i64 t.K, .slice a n cap, .bool t.s] ∧ OwnE B t.L (.slice a n cap) w
theorem OwnQ.rd {B : Nat} {t : FQ} {v : Value} {w : World} (h : OwnQ B t v w) : RdQ t v w := by
  obtain ⟨a, n, cap, rfl, h⟩ := h
  exact ⟨a, n, cap, rfl, h.rd⟩
theorem OwnQ.below {B : Nat} {t : FQ} {v : Value} {w w' : World} (h : OwnQ B t v w) (hb : Below w.heap.size w w') : OwnQ B t v w' := by
  obtain ⟨a, n, cap, rfl, h⟩ := h
  exact ⟨a, n, cap, rfl, h.below hb⟩
/-- A struct of five cells in memory: a summary. -/
def FqS (g : Nat) (S T K : Int) (v : Value) (s : Bool) (w : World) : Prop :=
  (w.cell? ⟨g, 0, none⟩ = some (.int .i64 S) ∧ w.cell? ⟨g, 1, none⟩ = some (.int .i64 T) ∧ w.cell? ⟨g, 2, none⟩ = some (.int .i64 K) ∧ w.cell? ⟨g, 3, none⟩ = some v ∧ w.cell? ⟨g, 4, none⟩ = some (.bool s)) ∧
    w.frozen? ⟨g, 0, none⟩ = false ∧ w.frozen? ⟨g, 1, none⟩ = false ∧ w.frozen? ⟨g, 2, none⟩ = false ∧ w.frozen? ⟨g, 3, none⟩ = false ∧ w.frozen? ⟨g, 4, none⟩ = false
theorem FqS.keep {g : Nat} {S T K : Int} {v : Value} {s : Bool} {w w' : World} (h : FqS g S T K v s w) (hb : w'.heap[g]? = w.heap[g]?) : FqS g S T K v s w' := by
  obtain ⟨⟨h0, h1, h2, h3, h4⟩, f0, f1, f2, f3, f4⟩ := h
  have hc : ∀ o, w'.cell? ⟨g, o, none⟩ = w.cell? ⟨g, o, none⟩ := fun o => World.cell?_of_block (w := w) (a := ⟨g, o, none⟩) hb
  have hf : ∀ o, w'.frozen? ⟨g, o, none⟩ = w.frozen? ⟨g, o, none⟩ := fun o => World.frozen?_of_block (w := w) (a := ⟨g, o, none⟩) hb
  exact ⟨⟨(hc _).trans h0, (hc _).trans h1, (hc _).trans h2, (hc _).trans h3, (hc _).trans h4⟩, (hf _).trans f0, (hf _).trans f1, (hf _).trans f2, (hf _).trans f3, (hf _).trans f4⟩
theorem FqS.below {g : Nat} {S T K : Int} {v : Value} {s : Bool} {w w' : World} (h : FqS g S T K v s w) {B : Nat} (hb : Below B w w') (hg : g < B) : FqS g S T K v s w' := h.keep (hb.block g hg)
theorem FqS.new (S T K : Int) (v : Value) (s : Bool) (t : TypeId) (w : World) : FqS w.heap.size S T K v s (w.alloc (.cells #[.int .i64 S, .int .i64 T, .int .i64 K, v, .bool s] t)) := by
  exact ⟨⟨by go_simp, by go_simp, by go_simp, by go_simp, by go_simp⟩, by go_simp, by go_simp, by go_simp, by go_simp, by go_simp⟩
theorem FqS.lt {g : Nat} {S T K : Int} {v : Value} {s : Bool} {w : World} (h : FqS g S T K v s w) : g < w.heap.size := by
  have h0 := h.1.1
  unfold World.cell? at h0
  cases hb : w.heap[g]? with
  | none => simp [hb] at h0
  | some o => exact (Array.getElem?_eq_some_iff.1 hb).1
theorem FqS.go {g : Nat} {S T K : Int} {v : Value} {s : Bool} {w w' : World} (h : FqS g S T K v s w) (hb : Below w.heap.size w w') : FqS g S T K v s w' := h.below hb h.lt
/-- What is wrong with an entry. -/
def entQ (x : Ent) : Int := if keyB (byt x.k) = false then 7 else if x.c < 1 ∨ 1099511627776 < x.c ∨ x.e ≠ 0 then 5 else 0
/-- What is wrong at position i. -/
def errQ (L : List Ent) (i : Nat) : Int :=
  if entQ (L.getD i Ent.z) ≠ 0 then entQ (L.getD i Ent.z) else if 0 < i ∧ lessK (L.getD (i - 1) Ent.z).k (L.getD i Ent.z).k = false then 19 else 0
/-- The first error among the m entries from i on. -/
def vgoQ (L : List Ent) : Nat → Nat → Int
  | 0, _ => 0
  | m + 1, i => if errQ L i ≠ 0 then errQ L i else vgoQ L m (i + 1)
def parQ (S T K : Int) : Bool := decide (1 ≤ S) && decide (S ≤ 32) && (decide (0 ≤ T) && decide (T ≤ 1099511627776)) && (decide (0 ≤ K) && decide (K ≤ 1099511627776))
def valQ (S T K : Int) (L : List Ent) : Int := if parQ S T K = false then 5 else if S < L.length then 11 else vgoQ L L.length 0
/-- What a valid summary is. -/
structure ValQ (S T K : Int) (L : List Ent) : Prop where
  s0 : 1 ≤ S
  s1 : S ≤ 32
  t0 : 0 ≤ T
  t1 : T ≤ 1099511627776
  k0 : 0 ≤ K
  k1 : K ≤ 1099511627776
  len : (L.length : Int) ≤ S
  ent : ∀ i, i < L.length → entQ (L.getD i Ent.z) = 0
  ord : ∀ i, i + 1 < L.length → lessK (L.getD i Ent.z).k (L.getD (i + 1) Ent.z).k = true
theorem entQ_cases (x : Ent) : entQ x = 0 ∨ entQ x = 7 ∨ entQ x = 5 := by
  unfold entQ
  split
  · exact .inr (.inl rfl)
  · split
    · exact .inr (.inr rfl)
    · exact .inl rfl
theorem errQ_zero {L : List Ent} {i : Nat} (h : errQ L i = 0) : entQ (L.getD i Ent.z) = 0 ∧ (0 < i → lessK (L.getD (i - 1) Ent.z).k (L.getD i Ent.z).k = true) := by
  unfold errQ at h
  by_cases h1 : entQ (L.getD i Ent.z) = 0
  · rw [if_neg (by simpa using h1)] at h
    by_cases h3 : 0 < i ∧ lessK (L.getD (i - 1) Ent.z).k (L.getD i Ent.z).k = false
    · rw [if_pos h3] at h
      cases h
    · refine ⟨h1, fun h4 => ?_⟩
      cases hb : lessK (L.getD (i - 1) Ent.z).k (L.getD i Ent.z).k with
      | true => rfl
      | false => exact absurd ⟨h4, hb⟩ h3
  · rw [if_pos h1] at h
    exact absurd h h1
theorem vgoQ_zero (L : List Ent) : ∀ m i, vgoQ L m i = 0 → ∀ j, i ≤ j → j < i + m → errQ L j = 0
  | 0, i, _, j, h1, h2 => by omega
  | m + 1, i, h, j, h1, h2 => by
    unfold vgoQ at h
    by_cases he : errQ L i = 0
    · rw [if_neg (by simpa using he)] at h
      by_cases hj : j = i
      · subst hj; exact he
      · exact vgoQ_zero L m (i + 1) h j (by omega) (by omega)
    · rw [if_pos he] at h
      exact absurd h he
theorem parQ_iff (S T K : Int) : parQ S T K = true ↔ 1 ≤ S ∧ S ≤ 32 ∧ 0 ≤ T ∧ T ≤ 1099511627776 ∧ 0 ≤ K ∧ K ≤ 1099511627776 := by
  unfold parQ
  simp [and_assoc]
theorem valQ_ok {S T K : Int} {L : List Ent} (h : valQ S T K L = 0) : ValQ S T K L := by
  unfold valQ at h
  cases hp : parQ S T K with
  | false => rw [hp, if_pos rfl] at h; cases h
  | true =>
    rw [hp, if_neg (by simp)] at h
    obtain ⟨p1, p2, p3, p4, p5, p6⟩ := (parQ_iff S T K).1 hp
    by_cases h2 : S < L.length
    · rw [if_pos h2] at h
      cases h
    · rw [if_neg h2] at h
      have h3 := vgoQ_zero L _ _ h
      refine ⟨p1, p2, p3, p4, p5, p6, by omega, fun i hi => (errQ_zero (h3 i (by omega) (by omega))).1, fun i hi => ?_⟩
      have := (errQ_zero (h3 (i + 1) (by omega) (by omega))).2 (by omega)
      simpa using this
theorem vgoQ_all {L : List Ent} (m i : Nat) (h : ∀ j, i ≤ j → j < i + m → errQ L j = 0) : vgoQ L m i = 0 := by
  induction m generalizing i with
  | zero => rfl
  | succ m ih =>
    unfold vgoQ
    rw [if_neg (by simpa using h i (Nat.le_refl _) (by omega))]
    exact ih (i + 1) (fun j h1 h2 => h j (by omega) (by omega))
theorem valQ_of {S T K : Int} {L : List Ent} (h : ValQ S T K L) : valQ S T K L = 0 := by
  obtain ⟨s0, s1, t0, t1, k0, k1, l, e, r⟩ := h
  unfold valQ
  rw [(parQ_iff S T K).2 ⟨s0, s1, t0, t1, k0, k1⟩, if_neg (by simp), if_neg (by omega)]
  refine vgoQ_all _ _ (fun j _ hj => ?_)
  unfold errQ
  rw [if_neg (by simpa using e j (by omega)), if_neg]
  rintro ⟨h0, h1⟩
  have := r (j - 1) (by omega)
  rw [show j - 1 + 1 = j by omega, h1] at this
  cases this
theorem valQ_bd (S T K : Int) (L : List Ent) : 0 ≤ valQ S T K L ∧ valQ S T K L ≤ 19 := by
  have he : ∀ i, 0 ≤ errQ L i ∧ errQ L i ≤ 19 := fun i => by
    unfold errQ
    rcases entQ_cases (L.getD i Ent.z) with h | h | h <;> rw [h] <;> (split <;> first | omega | (split <;> omega))
  have hv : ∀ m i, 0 ≤ vgoQ L m i ∧ vgoQ L m i ≤ 19 := fun m => by
    induction m with
    | zero => intro i; exact ⟨Int.le_refl _, by show (0 : Int) ≤ 19; decide⟩
    | succ m ih =>
      intro i
      unfold vgoQ
      split
      · exact he i
      · exact ih _
  unfold valQ
  split
  · omega
  · split
    · omega
    · exact hv _ _
theorem ValQ.small {S T K : Int} {L : List Ent} (h : ValQ S T K L) : L.length ≤ 32 := by have := h.len; have := h.s1; omega
theorem entQ_zero {x : Ent} (h : entQ x = 0) : keyB (byt x.k) = true ∧ 1 ≤ x.c ∧ x.c ≤ 1099511627776 ∧ x.e = 0 := by
  unfold entQ at h
  cases hk : keyB (byt x.k) with
  | false => rw [hk, if_pos rfl] at h; cases h
  | true =>
    rw [hk, if_neg (by simp)] at h
    by_cases hb : x.c < 1 ∨ 1099511627776 < x.c ∨ x.e ≠ 0
    · rw [if_pos hb] at h; cases h
    · exact ⟨rfl, by omega, by omega, by omega⟩
theorem entQ_of {x : Ent} (hk : keyB (byt x.k) = true) (h1 : 1 ≤ x.c) (h2 : x.c ≤ 1099511627776) (h3 : x.e = 0) : entQ x = 0 := by
  unfold entQ
  rw [hk, if_neg (by simp), if_neg (by omega)]
end Go.Proofs.Ytmmdnomfpfcjiaa
