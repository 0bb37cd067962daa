/- What is read as a LogLog sketch: plain numbers; the reference's reading of it, step by step. -/
import Derived.Test.YtgnopnifdiipkaaDoorRNum
import Derived.Test.YtgnopnifdiipkaaDoorRLNew
import Derived.Test.YtgnopnifdiipkaaDoorWireFacts
namespace Go.Proofs.YtgnopnifdiipkaaDoor
open Go.RowKit
set_option linter.unusedVariables false
set_option linter.unusedSimpArgs false
/-- The parts of an encoding. -/
def dlP (L : List Int) : Int := (decU L).1
def dlX (L : List Int) : Int := (decW (restU L)).1
def dlR (L : List Int) : List Int := restW (restU L)
def dlOk (L : List Int) : Bool := prB (dlP L) && ((decU L).2.2 == 0) && ((decW (restU L)).2.2 == 0) && decide ((dlR L).length = llN (dlP L)) && (dlR L).all (regB (dlP L))
/-- What is read, and the error. -/
def decL (L : List Int) : LL := if dlOk L = true then ⟨dlP L, dlX L, dlR L⟩ else LL.none
def decLE (L : List Int) : Int := if dlOk L = true then 0 else 2
theorem decL_no {L : List Int} (h : dlOk L = false) : decL L = LL.none ∧ decLE L = 2 := by
  unfold decL decLE
  rw [if_neg (by rw [h]; simp), if_neg (by rw [h]; simp)]
  exact ⟨rfl, rfl⟩
theorem decL_yes {L : List Int} (h : dlOk L = true) : decL L = ⟨dlP L, dlX L, dlR L⟩ ∧ decLE L = 0 := by
  unfold decL decLE
  rw [if_pos h, if_pos h]
  exact ⟨rfl, rfl⟩
theorem dlOk_iff (L : List Int) : dlOk L = true ↔ (2 ≤ dlP L ∧ dlP L ≤ 8) ∧ (decU L).2.2 = 0 ∧ (decW (restU L)).2.2 = 0 ∧ (dlR L).length = llN (dlP L) ∧ ∀ n ∈ dlR L, 0 ≤ n ∧ n ≤ 65 - dlP L := by
  unfold dlOk
  simp only [Bool.and_eq_true, prB_iff, beq_iff_eq, decide_eq_true_eq, List.all_eq_true, regB_iff]
  constructor
  · rintro ⟨⟨⟨⟨a, b⟩, c⟩, d⟩, e⟩
    exact ⟨a, b, c, d, e⟩
  · rintro ⟨a, b, c, d, e⟩
    exact ⟨⟨⟨⟨a, b⟩, c⟩, d⟩, e⟩
theorem dlOk_no {L : List Int} (h : ¬ ((2 ≤ dlP L ∧ dlP L ≤ 8) ∧ (decU L).2.2 = 0 ∧ (decW (restU L)).2.2 = 0 ∧ (dlR L).length = llN (dlP L) ∧ ∀ n ∈ dlR L, 0 ≤ n ∧ n ≤ 65 - dlP L)) : dlOk L = false := by
  rw [← dlOk_iff] at h
  simpa using h
/-- A small number is one byte. -/
theorem num_small {R : List Int} (hy : Byt R) {M : Int} (hM : M < 248) (h : numG R M = true) : ∃ v T, R = v :: T ∧ (decU R).1 = v ∧ restU R = T := by
  obtain ⟨h0, h1⟩ := numG_yes h
  have hb := decU_bd hy
  have ho := decU_once hy h0
  rw [uintB_small (by omega)] at ho
  cases R with
  | nil => simp at ho
  | cons v T =>
    refine ⟨v, T, rfl, ?_⟩
    obtain ⟨m, hm⟩ : ∃ m, (decU (v :: T)).2.1.toNat = m := ⟨_, rfl⟩
    rw [hm] at ho
    cases m with
    | zero => simp at ho
    | succ m =>
      rw [List.take_succ_cons] at ho
      have e := List.cons.inj ho
      have e1 : (decU (v :: T)).1 = v := by
        have := e.1
        omega
      refine ⟨e1, ?_⟩
      unfold restU
      rw [hm, List.drop_succ_cons]
      have hl : (T.take m).length = 0 := by rw [← e.2]; rfl
      rw [List.length_take] at hl
      have hb2 : (decU (v :: T)).2.1 ≤ ((v :: T).length : Int) := by omega
      rw [List.length_cons] at hb2
      have : m ≤ T.length := by omega
      obtain rfl : m = 0 := by omega
      rfl
theorem num_one {v : Int} {T : List Int} {M : Int} (h0 : 0 ≤ v) (h1 : v ≤ M) (h2 : v < 248) : numG (v :: T) M = true := by
  have e : v :: T = uintB v.toNat ++ T := by
    rw [uintB_small (by omega)]
    show v :: T = ((v.toNat : Nat) : Int) :: T
    rw [Int.toNat_of_nonneg h0]
  have hd := decU_back (n := v.toNat) (by omega) T
  rw [← e] at hd
  unfold numG
  rw [hd]
  simp
  omega
/-- What is known behind the head. -/
def LHd (L : List Int) (P x : Int) (b : Bool) (R : List Int) : Prop :=
  (b = true → dlOk L = false) ∧ (b = false → P = dlP L ∧ x = dlX L ∧ R = dlR L ∧ (decU L).2.2 = 0 ∧ (decW (restU L)).2.2 = 0)
theorem LHd.of {L R1 R : List Int} {P x : Int} {b1 b : Bool} (h1 : NumP L 8 false P b1 R1) (h2 : WorP R1 b1 x b R) : LHd L P x b R := by
  rcases h1 with ⟨_, g1, rfl, rfl, rfl⟩ | ⟨g1, rfl, rfl, _⟩
  · rcases h2 with ⟨_, g2, rfl, rfl, rfl⟩ | ⟨g2, rfl, rfl, _⟩
    · exact ⟨fun h => (by cases h), fun _ => ⟨rfl, rfl, rfl, (numG_yes g1).1, g2⟩⟩
    · exact ⟨fun _ => dlOk_no fun h => (g2.resolve_left (by simp)) h.2.2.1, fun h => (by cases h)⟩
  · have hb : dlOk L = false := dlOk_no fun h => by
      rcases numG_no (g1.resolve_left (by simp)) with g | g
      · exact g h.2.1
      · have := h.1.2
        unfold dlP at this
        omega
    rcases h2 with ⟨h, _⟩ | ⟨_, _, rfl, _⟩
    · cases h
    · exact ⟨fun _ => hb, fun h => (by cases h)⟩
/-- What is known behind k registers. -/
def LCl (L : List Int) (P x : Int) (C : List Int) (b : Bool) (R : List Int) (k : Nat) : Prop :=
  (b = true → dlOk L = false) ∧ (b = false → P = dlP L ∧ x = dlX L ∧ R = (dlR L).drop k ∧ C = (dlR L).take k ∧ k ≤ (dlR L).length ∧ (decU L).2.2 = 0 ∧ (decW (restU L)).2.2 = 0)
theorem LCl.start {L R : List Int} {P x : Int} {b : Bool} (h : LHd L P x b R) : LCl L P x [] b R 0 :=
  ⟨h.1, fun hb => by obtain ⟨a1, a2, a3, a4, a5⟩ := h.2 hb; exact ⟨a1, a2, a3, rfl, Nat.zero_le _, a4, a5⟩⟩
theorem LCl.step {L R R' C : List Int} {P x n : Int} {b b' : Bool} {k : Nat} (hy : Byt (dlR L)) (h : LCl L P x C b R k) (hb : b = false) (hk : k < llN P) (hn : NumP R 65 b n b' R') : LCl L P x (C ++ [n]) b' R' (k + 1) := by
  obtain ⟨a1, a2, a3, a4, a5, a6, a7⟩ := h.2 hb
  rcases hn with ⟨_, g, rfl, rfl, rfl⟩ | ⟨g, rfl, rfl, rfl⟩
  · refine ⟨fun h => (by cases h), fun _ => ?_⟩
    obtain ⟨v, T, e1, e2, e3⟩ := num_small (by rw [a3]; exact hy.drop k) (by decide) g
    have hl : k < (dlR L).length := by
      have : ((dlR L).drop k).length = T.length + 1 := by rw [← a3, e1]; rfl
      rw [List.length_drop] at this
      omega
    have hd := List.drop_eq_getElem_cons hl
    rw [← a3, e1] at hd
    obtain ⟨f1, f2⟩ := List.cons.inj hd
    refine ⟨a1, a2, by rw [e3, f2], ?_, hl, a6, a7⟩
    rw [take_snoc _ k hl, a4, e2]
    congr 2
    simp only [List.getD, List.getElem?_eq_getElem hl, Option.getD_some]
    exact f1
  · refine ⟨fun _ => dlOk_no fun hh => ?_, fun h => (by cases h)⟩
    subst hb
    have g := g.resolve_left (by simp)
    obtain ⟨⟨q0, q1⟩, _, _, q4, q5⟩ := hh
    have hl : k < (dlR L).length := by rw [q4, ← a1]; exact hk
    have hd := List.drop_eq_getElem_cons hl
    rw [a3, hd] at g
    have := q5 _ (List.getElem_mem hl)
    rw [num_one (by omega) (by omega) (by omega)] at g
    cases g
/-- What is known in the end. -/
theorem LCl.fin {L R C : List Int} {P x : Int} {b : Bool} {k : Nat} (h : LCl L P x C b R k) (hk : b = true ∨ ¬ k < llN P) (hk2 : b = false → k ≤ llN P) :
    ((b = true ∨ R ≠ [] ∨ llE P C ≠ 0) → dlOk L = false) ∧ (b = false → R = [] → llE P C = 0 → dlOk L = true ∧ decL L = ⟨P, x, C⟩) := by
  by_cases hb : b = true
  · have h1 := h.1 hb
    exact ⟨fun _ => h1, fun hb' => by rw [hb] at hb'; cases hb'⟩
  · have hb : b = false := by simpa using hb
    have hk : ¬ k < llN P := hk.resolve_left (by rw [hb]; simp)
    have hk2 := hk2 hb
    obtain ⟨a1, a2, a3, a4, a5, a6, a7⟩ := h.2 hb
    have hkN : k = llN P := by omega
    refine ⟨?_, fun _ h2 h3 => ?_⟩
    · rintro (h | h | h)
      · rw [hb] at h; cases h
      · refine dlOk_no fun hh => h ?_
        rw [a3, List.drop_eq_nil_iff, hh.2.2.2.1, hkN, a1]
        exact Nat.le_refl _
      · refine dlOk_no fun hh => h ?_
        have e : C = dlR L := by rw [a4]; exact List.take_of_length_le (by rw [hh.2.2.2.1, hkN, a1]; exact Nat.le_refl _)
        rw [e, a1]
        exact llE_mk hh.1 hh.2.2.2.1 hh.2.2.2.2
    · obtain ⟨o1, o2, o3⟩ := llE_ok h3
      have hl : (dlR L).length ≤ k := by
        rw [a3, List.drop_eq_nil_iff] at h2
        exact h2
      have e : C = dlR L := by rw [a4]; exact List.take_of_length_le hl
      rw [e] at o2 o3
      rw [a1] at o1 o2 o3
      have hok := (dlOk_iff L).2 ⟨o1, a6, a7, o2, o3⟩
      refine ⟨hok, ?_⟩
      rw [(decL_yes hok).1, a1, a2, e]
end Go.Proofs.YtgnopnifdiipkaaDoor
