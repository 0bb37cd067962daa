/- Pins as numbers: validity, addition, removal, total, cover. No program of its own. -/
import Derived.Test.YtpehbfghajlgmaaGreatPnM
namespace Go.Proofs.YtpehbfghajlgmaaGreat
open Go.RowKit
set_option linter.unusedVariables false
set_option linter.unusedSimpArgs false
/-- What is wrong with pin i. -/
def errAt (L : List Pn) (i : Nat) : Int :=
  if (L.getD i Pn.z).m < 0 ∨ (L.getD i Pn.z).n < 1 ∨ 1024 < (L.getD i Pn.z).n then 5 else if 0 < i ∧ (L.getD i Pn.z).m ≤ (L.getD (i - 1) Pn.z).m then 19 else 0
/-- The first error from pin i on. -/
def valF (L : List Pn) (i : Nat) : Nat → Int
  | 0 => 0
  | f + 1 => if errAt L i = 0 then valF L (i + 1) f else errAt L i
/-- The error of Validate. -/
def valN (L : List Pn) : Int := valF L 0 L.length
theorem valF_step {L : List Pn} : ∀ {i : Nat} (j : Nat), (∀ q, i ≤ q → q < i + j → errAt L q = 0) → ∀ f, valF L i (j + f) = valF L (i + j) f
  | i, 0, _, f => by rw [Nat.zero_add, Nat.add_zero]
  | i, j + 1, h, f => by
    rw [show j + 1 + f = (j + f) + 1 by omega, valF, if_pos (h i (Nat.le_refl _) (by omega)), valF_step j (fun q h1 h2 => h q (by omega) (by omega)) f]
    congr 1
    omega
theorem valN_bad {L : List Pn} {i : Nat} (h : ∀ q, q < i → errAt L q = 0) (hi : i < L.length) (he : errAt L i ≠ 0) : valN L = errAt L i := by
  unfold valN
  obtain ⟨f, hf⟩ : ∃ f, L.length = i + (f + 1) := ⟨L.length - i - 1, by omega⟩
  rw [hf, valF_step i (fun q _ h2 => h q (by omega)), Nat.zero_add, valF, if_neg he]
theorem valN_ok {L : List Pn} (h : ∀ q, q < L.length → errAt L q = 0) : valN L = 0 := by
  unfold valN
  have := valF_step (L := L) (i := 0) L.length (fun q _ h2 => h q (by omega)) 0
  rw [Nat.add_zero] at this
  rw [this]
  rfl
theorem valN_cases (L : List Pn) : (valN L = 0 ∧ ∀ q, q < L.length → errAt L q = 0) ∨ valN L ≠ 0 := by
  by_cases h : ∀ q, q < L.length → errAt L q = 0
  · exact .inl ⟨valN_ok h, h⟩
  · right
    have : ∃ q, q < L.length ∧ errAt L q ≠ 0 := by
      apply Classical.byContradiction
      intro hn
      apply h
      intro q hq
      apply Classical.byContradiction
      intro he
      exact hn ⟨q, hq, he⟩
    obtain ⟨q, hq, he⟩ := this
    -- the least one
    have key : ∀ k, (∃ q, q ≤ k ∧ q < L.length ∧ errAt L q ≠ 0) → ∃ i, i < L.length ∧ errAt L i ≠ 0 ∧ ∀ q, q < i → errAt L q = 0 := by
      intro k
      induction k with
      | zero =>
        rintro ⟨q, h1, h2, h3⟩
        obtain rfl : q = 0 := by omega
        exact ⟨0, h2, h3, fun q hq => by omega⟩
      | succ k ih =>
        rintro ⟨q, h1, h2, h3⟩
        by_cases hk : ∃ q, q ≤ k ∧ q < L.length ∧ errAt L q ≠ 0
        · exact ih hk
        · have hq1 : q = k + 1 := by
            apply Classical.byContradiction
            intro hne
            exact hk ⟨q, by omega, h2, h3⟩
          subst hq1
          refine ⟨k + 1, h2, h3, fun q hq => ?_⟩
          apply Classical.byContradiction
          intro hne
          exact hk ⟨q, by omega, by omega, hne⟩
    obtain ⟨i, h1, h2, h3⟩ := key q ⟨q, Nat.le_refl _, hq, he⟩
    rw [valN_bad h3 h1 h2]
    exact h2
/-- Valid pins, from commit k on. -/
def Vd : Int → List Pn → Prop
  | _, [] => True
  | k, p :: L => k ≤ p.m ∧ 1 ≤ p.n ∧ p.n ≤ 1024 ∧ Vd (p.m + 1) L
theorem Vd.mono : ∀ {L : List Pn} {k k' : Int}, Vd k L → k' ≤ k → Vd k' L
  | [], _, _, _, _ => trivial
  | p :: L, k, k', h, hk => ⟨by have := h.1; omega, h.2⟩
theorem Vd.low : ∀ {L : List Pn} {k : Int}, Vd k L → ∀ p ∈ L, k ≤ p.m ∧ 1 ≤ p.n ∧ p.n ≤ 1024
  | p :: L, k, h, q, hq => by
    rcases List.mem_cons.1 hq with rfl | hq
    · exact ⟨h.1, h.2.1, h.2.2.1⟩
    · have := h.2.2.2.low q hq
      have := h.1
      exact ⟨by omega, by omega, by omega⟩
theorem vd_of {L : List Pn} : ∀ {k : Int}, (∀ j, j < L.length → 1 ≤ (L.getD j Pn.z).n ∧ (L.getD j Pn.z).n ≤ 1024 ∧ (if j = 0 then k else (L.getD (j - 1) Pn.z).m + 1) ≤ (L.getD j Pn.z).m) → Vd k L := by
  induction L with
  | nil => intro k h; trivial
  | cons p L ih =>
    intro k h
    have h0 := h 0 (by simp)
    rw [if_pos rfl] at h0
    refine ⟨h0.2.2, h0.1, h0.2.1, ih (k := p.m + 1) (fun j hj => ?_)⟩
    have h1 := h (j + 1) (by simp; omega)
    rw [if_neg (by omega)] at h1
    have e1 : (p :: L).getD (j + 1) Pn.z = L.getD j Pn.z := by simp [List.getD]
    rw [e1] at h1
    refine ⟨h1.1, h1.2.1, ?_⟩
    by_cases hj0 : j = 0
    · subst hj0
      rw [if_pos rfl]
      have := h1.2.2
      simpa [List.getD] using this
    · rw [if_neg hj0]
      have e2 : (p :: L).getD (j + 1 - 1) Pn.z = L.getD (j - 1) Pn.z := by
        obtain ⟨i, rfl⟩ : ∃ i, j = i + 1 := ⟨j - 1, by omega⟩
        simp [List.getD]
      rw [e2] at h1
      exact h1.2.2
theorem vd_at : ∀ {L : List Pn} {k : Int}, Vd k L → ∀ j, j < L.length → 1 ≤ (L.getD j Pn.z).n ∧ (L.getD j Pn.z).n ≤ 1024 ∧ (if j = 0 then k else (L.getD (j - 1) Pn.z).m + 1) ≤ (L.getD j Pn.z).m
  | p :: L, k, h, 0, _ => by rw [if_pos rfl]; exact ⟨h.2.1, h.2.2.1, h.1⟩
  | p :: L, k, h, j + 1, hj => by
    have h1 := vd_at h.2.2.2 j (by simp at hj; omega)
    rw [if_neg (by omega)]
    have e1 : (p :: L).getD (j + 1) Pn.z = L.getD j Pn.z := by simp [List.getD]
    rw [e1]
    refine ⟨h1.1, h1.2.1, ?_⟩
    by_cases hj0 : j = 0
    · subst hj0
      rw [if_pos rfl] at h1
      simpa [List.getD] using h1.2.2
    · rw [if_neg hj0] at h1
      have e2 : (p :: L).getD (j + 1 - 1) Pn.z = L.getD (j - 1) Pn.z := by
        obtain ⟨i, rfl⟩ : ∃ i, j = i + 1 := ⟨j - 1, by omega⟩
        simp [List.getD]
      rw [e2]
      exact h1.2.2
theorem vd_iff (L : List Pn) : valN L = 0 ↔ Vd 0 L := by
  constructor
  · intro h
    rcases valN_cases L with ⟨_, h1⟩ | h1
    · refine vd_of (fun j hj => ?_)
      have h2 := h1 j hj
      have h3 : ∀ q, q < L.length → 0 ≤ (L.getD q Pn.z).m := fun q hq => by
        have := h1 q hq
        unfold errAt at this
        split at this
        · cases this
        · omega
      unfold errAt at h2
      split at h2
      · cases h2
      · rename_i hn
        split at h2
        · cases h2
        · rename_i ho
          refine ⟨by omega, by omega, ?_⟩
          by_cases hj0 : j = 0
          · rw [if_pos hj0]; exact h3 j hj
          · rw [if_neg hj0]
            have : ¬ (L.getD j Pn.z).m ≤ (L.getD (j - 1) Pn.z).m := fun hle => ho ⟨by omega, hle⟩
            omega
    · exact absurd h h1
  · intro h
    refine valN_ok (fun j hj => ?_)
    have h1 := vd_at h j hj
    have h2 := h.low (L.getD j Pn.z) (by simp [List.getD, hj])
    unfold errAt
    rw [if_neg (by omega)]
    rw [if_neg]
    rintro ⟨h3, h4⟩
    rw [if_neg (by omega)] at h1
    omega
/-! addition -/
def addP (c : Int) : List Pn → List Pn
  | [] => [⟨c, 1⟩]
  | p :: L => if c < p.m then ⟨c, 1⟩ :: p :: L else if c = p.m then ⟨p.m, p.n + 1⟩ :: L else p :: addP c L
/-- A commit that is held as often as may be. -/
def fullP (L : List Pn) (c : Int) : Bool := L.any (fun p => p.m == c && p.n == 1024)
def addE (L : List Pn) (c : Int) : Int := if valN L ≠ 0 then valN L else if c < 0 then 5 else if fullP L c = true then 14 else 0
def addV (L : List Pn) (c : Int) : List Pn := if addE L c = 0 then addP c L else []
theorem addP_vd : ∀ {L : List Pn} {k c : Int}, Vd k L → k ≤ c → fullP L c = false → Vd k (addP c L)
  | [], k, c, _, hc, _ => ⟨hc, (by show (1 : Int) ≤ 1; decide), (by show (1 : Int) ≤ 1024; decide), trivial⟩
  | p :: L, k, c, h, hc, hf => by
    unfold fullP at hf
    rw [List.any_cons, Bool.or_eq_false_iff] at hf
    unfold addP
    by_cases h1 : c < p.m
    · rw [if_pos h1]
      exact ⟨hc, (by show (1 : Int) ≤ 1; decide), (by show (1 : Int) ≤ 1024; decide), (by show c + 1 ≤ p.m; omega), h.2.1, h.2.2.1, h.2.2.2⟩
    · by_cases h2 : c = p.m
      · rw [if_neg h1, if_pos h2]
        have hn : p.n ≠ 1024 := fun e => by
          have := hf.1
          simp [h2, e] at this
        have := h.2.1
        have := h.2.2.1
        exact ⟨h.1, (by show 1 ≤ p.n + 1; omega), (by show p.n + 1 ≤ 1024; omega), h.2.2.2⟩
      · rw [if_neg h1, if_neg h2]
        exact ⟨h.1, h.2.1, h.2.2.1, addP_vd h.2.2.2 (by omega) hf.2⟩
theorem addP_comm : ∀ {L : List Pn} {k : Int} (a b : Int), Vd k L → addP b (addP a L) = addP a (addP b L)
  | [], k, a, b, _ => by
    unfold addP
    simp only [addP]
    rcases Int.lt_trichotomy a b with h | h | h
    · rw [if_neg (by omega), if_neg (by omega), if_pos h]
    · subst h; rfl
    · rw [if_pos h, if_neg (by omega), if_neg (by omega)]
  | p :: L, k, a, b, h => by
    have ih := addP_comm (L := L) a b h.2.2.2
    rcases Int.lt_trichotomy a p.m with h1 | h1 | h1 <;> rcases Int.lt_trichotomy b p.m with h2 | h2 | h2 <;> rcases Int.lt_trichotomy a b with h3 | h3 | h3 <;>
      first
      | (exfalso; omega)
      | (subst h3; rfl)
      | (simp only [addP]
         repeat (first | rw [if_pos (by omega)] | rw [if_neg (by omega)] | simp only [addP])
         try exact ih
         try rfl
         try (rw [ih]))
/-! removal -/
def decP (c : Int) (p : Pn) : Pn := if p.m = c then ⟨p.m, p.n - 1⟩ else p
def remP (c : Int) : List Pn → List Pn
  | [] => []
  | p :: L => if 0 < (decP c p).n then decP c p :: remP c L else remP c L
def remF (L : List Pn) (c : Int) : Bool := L.any (fun p => p.m == c)
def remE (L : List Pn) (c : Int) : Int := if valN L ≠ 0 then valN L else if remF L c = true then 0 else 8
def remV (L : List Pn) (c : Int) : List Pn := if remE L c = 0 then remP c L else []
theorem remP_none {c : Int} : ∀ {L : List Pn}, (∀ x ∈ L, x.m ≠ c ∧ 1 ≤ x.n) → remP c L = L
  | [], _ => rfl
  | p :: L, h => by
    have h1 := h p (List.mem_cons_self ..)
    have e : decP c p = p := by unfold decP; rw [if_neg h1.1]
    unfold remP
    rw [e, if_pos (by omega), remP_none (fun x hx => h x (List.mem_cons_of_mem _ hx))]
theorem rem_add : ∀ {L : List Pn} {k : Int} (c : Int), Vd k L → remP c (addP c L) = L
  | [], k, c, _ => by simp [addP, remP, decP]
  | p :: L, k, c, h => by
    unfold addP
    by_cases h1 : c < p.m
    · rw [if_pos h1]
      have e : decP c ⟨c, 1⟩ = ⟨c, 0⟩ := by simp [decP]
      unfold remP
      rw [e, if_neg (by show ¬ (0 : Int) < 0; decide)]
      refine remP_none (fun x hx => ?_)
      rcases List.mem_cons.1 hx with rfl | hx
      · exact ⟨by omega, h.2.1⟩
      · have := h.2.2.2.low x hx
        exact ⟨by omega, by omega⟩
    · by_cases h2 : c = p.m
      · rw [if_neg h1, if_pos h2]
        have e : decP c ⟨p.m, p.n + 1⟩ = p := by
          unfold decP
          rw [if_pos h2.symm]
          obtain ⟨pm, pn⟩ := p
          show (⟨pm, pn + 1 - 1⟩ : Pn) = ⟨pm, pn⟩
          congr 1
          omega
        unfold remP
        rw [e, if_pos (by have := h.2.1; omega), remP_none (fun x hx => by have := h.2.2.2.low x hx; exact ⟨by omega, by omega⟩)]
      · rw [if_neg h1, if_neg h2]
        have e : decP c p = p := by unfold decP; rw [if_neg (fun e => h2 e.symm)]
        unfold remP
        rw [e, if_pos (by have := h.2.1; omega), rem_add c h.2.2.2]
theorem remF_add (c : Int) : ∀ L : List Pn, remF (addP c L) c = true
  | [] => by simp [addP, remF]
  | p :: L => by
    unfold addP
    by_cases h1 : c < p.m
    · simp [remF, h1]
    · by_cases h2 : c = p.m
      · simp [remF, h1, h2]
      · rw [if_neg h1, if_neg h2]
        unfold remF
        rw [List.any_cons]
        have := remF_add c L
        unfold remF at this
        rw [this, Bool.or_true]
/-! the sum -/
def totF (a : Int) : List Pn → Int
  | [] => a
  | p :: L => totF (satN (a + nat0 p.n) 1099511627776) L
def sumP : List Pn → Int
  | [] => 0
  | p :: L => p.n + sumP L
theorem sumP_nn : ∀ {L : List Pn} {k : Int}, Vd k L → 0 ≤ sumP L ∧ ∀ p ∈ L, p.n ≤ sumP L
  | [], _, _ => ⟨Int.le_refl _, fun p hp => by cases hp⟩
  | p :: L, k, h => by
    have ih := sumP_nn h.2.2.2
    have := h.2.1
    refine ⟨by show 0 ≤ p.n + sumP L; omega, fun q hq => ?_⟩
    show q.n ≤ p.n + sumP L
    rcases List.mem_cons.1 hq with rfl | hq
    · omega
    · have := ih.2 q hq
      omega
theorem totF_eq : ∀ {L : List Pn} {k a : Int}, Vd k L → 0 ≤ a → a ≤ 1099511627776 → totF a L = satN (a + sumP L) 1099511627776
  | [], k, a, _, h0, h1 => by
    show a = satN (a + 0) _
    unfold satN
    rw [if_neg (by omega)]
    omega
  | p :: L, k, a, h, h0, h1 => by
    have hn := nat0_of p.n (by have := h.2.1; omega)
    have hs := (sumP_nn h.2.2.2).1
    have hp := h.2.1
    unfold totF
    rw [hn]
    have hb : 0 ≤ satN (a + p.n) 1099511627776 ∧ satN (a + p.n) 1099511627776 ≤ 1099511627776 := by unfold satN; split <;> omega
    rw [totF_eq h.2.2.2 hb.1 hb.2]
    show satN (satN (a + p.n) _ + sumP L) _ = satN (a + (p.n + sumP L)) _
    unfold satN
    split <;> split <;> split <;> omega
theorem sumP_add (c : Int) : ∀ L : List Pn, sumP (addP c L) = sumP L + 1
  | [] => rfl
  | p :: L => by
    unfold addP
    by_cases h1 : c < p.m
    · rw [if_pos h1]
      show 1 + (p.n + sumP L) = p.n + sumP L + 1
      omega
    · by_cases h2 : c = p.m
      · rw [if_neg h1, if_pos h2]
        show p.n + 1 + sumP L = p.n + sumP L + 1
        omega
      · rw [if_neg h1, if_neg h2]
        show p.n + sumP (addP c L) = p.n + sumP L + 1
        rw [sumP_add c L]
        omega
theorem fullP_small {L : List Pn} {k : Int} (h : Vd k L) (hs : sumP L < 1024) (c : Int) : fullP L c = false := by
  unfold fullP
  rw [List.any_eq_false]
  intro p hp
  have := (sumP_nn h).2 p hp
  simp
  omega
/-! cover -/
def conP (f t m : Int) : Bool := decide (f ≤ m) && (decide (m < t) || decide (t = 0))
def covP (f t : Int) (L : List Pn) : Bool := L.any (fun p => conP f t p.m)
theorem covP_add (f t c : Int) : ∀ L : List Pn, covP f t (addP c L) = (covP f t L || conP f t c)
  | [] => by simp [addP, covP]
  | p :: L => by
    unfold addP
    by_cases h1 : c < p.m
    · rw [if_pos h1]
      simp only [covP, List.any_cons]
      cases conP f t c <;> cases conP f t p.m <;> simp
    · by_cases h2 : c = p.m
      · rw [if_neg h1, if_pos h2, h2]
        simp only [covP, List.any_cons]
        cases conP f t p.m <;> simp
      · rw [if_neg h1, if_neg h2]
        have ih := covP_add f t c L
        simp only [covP, List.any_cons] at ih ⊢
        rw [ih, Bool.or_assoc]
theorem covP_mono {f t t' : Int} (h : ∀ m, conP f t m = true → conP f t' m = true) {L : List Pn} (hc : covP f t L = true) : covP f t' L = true := by
  unfold covP at *
  obtain ⟨p, hp, hc⟩ := List.any_eq_true.1 hc
  exact List.any_eq_true.2 ⟨p, hp, h _ hc⟩
end Go.Proofs.YtpehbfghajlgmaaGreat
