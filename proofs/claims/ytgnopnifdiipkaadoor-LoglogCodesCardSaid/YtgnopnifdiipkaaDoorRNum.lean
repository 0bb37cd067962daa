/- The reference's reader of encodings under one word. -/
import Derived.Test.YtgnopnifdiipkaaDoorRRdr
import Derived.Test.YtgnopnifdiipkaaDoorOthI
namespace Go.Proofs.YtgnopnifdiipkaaDoor
open Go.RowKit
set_option linter.unusedVariables false
set_option linter.unusedSimpArgs false
/-- A reader of the reference at the bytes R of L. -/
def RS (W : World) (g : Nat) (L R : List Int) (b : Bool) (w : World) : Prop := ∃ v k, Rd L v W ∧ k ≤ L.length ∧ L.drop k = R ∧ RSt g v k b w
theorem RSt.keep {g : Nat} {v : Value} {k : Nat} {b : Bool} {w w' : World} (h : RSt g v k b w) (hb : w'.heap[g]? = w.heap[g]?) : RSt g v k b w' := by
  obtain ⟨⟨h0, h1, h2⟩, f0, f1, f2⟩ := h
  have hc : ∀ o, w'.cell? ⟨g, o, none⟩ = w.cell? ⟨g, o, none⟩ := fun o => World.cell?_of_block (w := w) (a := ⟨g, o, none⟩) hb
  have hf : ∀ o, w'.frozen? ⟨g, o, none⟩ = w.frozen? ⟨g, o, none⟩ := fun o => World.frozen?_of_block (w := w) (a := ⟨g, o, none⟩) hb
  exact ⟨⟨(hc _).trans h0, (hc _).trans h1, (hc _).trans h2⟩, (hf _).trans f0, (hf _).trans f1, (hf _).trans f2⟩
theorem RS.keep {W : World} {g : Nat} {L R : List Int} {b : Bool} {w w' : World} (h : RS W g L R b w) (hb : w'.heap[g]? = w.heap[g]?) : RS W g L R b w' := by
  obtain ⟨v, k, h1, h2, h3, h4⟩ := h
  exact ⟨v, k, h1, h2, h3, h4.keep hb⟩
theorem RS.size {W : World} {g : Nat} {L R : List Int} {b : Bool} {w : World} (h : RS W g L R b w) : g < w.heap.size := by
  obtain ⟨v, k, _, _, _, h4⟩ := h
  exact block_lt_of_cell h4.1.1
theorem RS.byt {W : World} {g : Nat} {L R : List Int} {b : Bool} {w : World} (h : RS W g L R b w) : Byt R := by
  obtain ⟨v, k, h1, _, rfl, _⟩ := h
  exact h1.1.drop _
theorem Oth.one (g : Nat) (w : World) (o : Nat) (u : Value) (m : Nat) : Oth g w ((w.setCell ⟨g, o, none⟩ u).drewN m) :=
  ⟨below_drewN ((Below.refl g w).setCell (p := ⟨g, o, none⟩) (Nat.le_refl _) _) _, fun b hb => Below.heap_setCell w ⟨g, o, none⟩ _ _ hb⟩
/-- What one reading of a number gives. -/
def NumP (R : List Int) (M : Int) (b : Bool) (n : Int) (b' : Bool) (R' : List Int) : Prop :=
  (b = false ∧ numG R M = true ∧ n = (decU R).1 ∧ b' = false ∧ R' = restU R) ∨ ((b = true ∨ numG R M = false) ∧ n = 0 ∧ b' = true ∧ R' = R)
theorem NumP.bd {R : List Int} {M : Int} {b : Bool} {n : Int} {b' : Bool} {R' : List Int} (h : NumP R M b n b' R') (hy : Byt R) (hM : 0 ≤ M) : 0 ≤ n ∧ n ≤ M := by
  rcases h with ⟨_, h1, h2, _⟩ | ⟨_, h2, _⟩
  · have := numG_yes h1
    have := (decU_bd hy).1
    omega
  · omega
theorem rnum_any {W : World} {g : Nat} {L R : List Int} {b : Bool} {w : World} (M : Int) (M0 : 0 ≤ M) (M1 : M ≤ 9223372036854775807) (h : RS W g L R b w) (hb : Below W.heap.size W w) :
    Calls Tryd.prog 56 #[.pointer (some ⟨g, 0, none⟩), .int .i64 M] w fun e w' =>
      ∃ n b' R', e = .returned (.int .i64 n) ∧ NumP R M b n b' R' ∧ RS W g L R' b' w' ∧ Oth g w w' := by
  obtain ⟨v, k, h1, h2, rfl, ⟨c0, c1, c2⟩, f0, f1, f2⟩ := h
  by_cases hg : b = false ∧ numG (L.drop k) M = true
  · obtain ⟨rfl, hg⟩ := hg
    refine (number_good g L v k M w (h1.below hb) h2 (by omega) M1 c0 c1 c2 f1 hg).mono ?_
    rintro e w' ⟨rfl, m, rfl⟩
    have hbd := decU_bd (h1.1.drop k)
    rw [List.length_drop] at hbd
    have e1 : (k : Int) + (decU (L.drop k)).2.1 = ((k + (decU (L.drop k)).2.1.toNat : Nat) : Int) := by omega
    refine ⟨_, false, restU (L.drop k), rfl, .inl ⟨rfl, hg, rfl, rfl, rfl⟩, ⟨v, k + (decU (L.drop k)).2.1.toNat, h1, by omega, by unfold restU; rw [List.drop_drop], ?_⟩, Oth.one _ _ _ _ _⟩
    rw [e1]
    exact ⟨⟨by go_simp, by go_simp, by go_simp⟩, by go_simp, by go_simp, by go_simp⟩
  · have hg' : b = true ∨ numG (L.drop k) M = false := by
      by_cases hbt : b = true
      · exact .inl hbt
      · refine .inr ?_
        have : ¬ numG (L.drop k) M = true := fun h => hg ⟨by simpa using hbt, h⟩
        simpa using this
    refine (number_bad g L v k b M w (h1.below hb) h2 (by omega) M1 c0 c1 c2 f2 hg').mono ?_
    rintro e w' ⟨rfl, m, rfl⟩
    exact ⟨0, true, L.drop k, rfl, .inr ⟨hg', rfl, rfl, rfl⟩, ⟨v, k, h1, h2, rfl, ⟨by go_simp, by go_simp, by go_simp⟩, by go_simp, by go_simp, by go_simp⟩, Oth.one _ _ _ _ _⟩
/-- What one reading of a word gives. -/
def WorP (R : List Int) (b : Bool) (x : Int) (b' : Bool) (R' : List Int) : Prop :=
  (b = false ∧ (decW R).2.2 = 0 ∧ x = (decW R).1 ∧ b' = false ∧ R' = restW R) ∨ ((b = true ∨ (decW R).2.2 ≠ 0) ∧ x = 0 ∧ b' = true ∧ R' = R)
theorem rwrd_any {W : World} {g : Nat} {L R : List Int} {b : Bool} {w : World} (h : RS W g L R b w) (hb : Below W.heap.size W w) :
    Calls Tryd.prog 57 #[.pointer (some ⟨g, 0, none⟩)] w fun e w' =>
      ∃ x b' R', e = .returned (.int .u64 x) ∧ WorP R b x b' R' ∧ RS W g L R' b' w' ∧ Oth g w w' := by
  obtain ⟨v, k, h1, h2, rfl, ⟨c0, c1, c2⟩, f0, f1, f2⟩ := h
  by_cases hg : b = false ∧ (decW (L.drop k)).2.2 = 0
  · obtain ⟨rfl, hg⟩ := hg
    refine (word_good g L v k w (h1.below hb) h2 c0 c1 c2 f1 hg).mono ?_
    rintro e w' ⟨rfl, m, rfl⟩
    have hbd := decW_bd (h1.1.drop k)
    rw [List.length_drop] at hbd
    have e1 : (k : Int) + (decW (L.drop k)).2.1 = ((k + (decW (L.drop k)).2.1.toNat : Nat) : Int) := by omega
    refine ⟨_, false, restW (L.drop k), rfl, .inl ⟨rfl, hg, rfl, rfl, rfl⟩, ⟨v, k + (decW (L.drop k)).2.1.toNat, h1, by omega, by unfold restW; rw [List.drop_drop], ?_⟩, Oth.one _ _ _ _ _⟩
    rw [e1]
    exact ⟨⟨by go_simp, by go_simp, by go_simp⟩, by go_simp, by go_simp, by go_simp⟩
  · have hg' : b = true ∨ (decW (L.drop k)).2.2 ≠ 0 := by
      by_cases hbt : b = true
      · exact .inl hbt
      · exact .inr fun h => hg ⟨by simpa using hbt, h⟩
    refine (word_bad g L v k b w (h1.below hb) h2 c0 c1 c2 f2 hg').mono ?_
    rintro e w' ⟨rfl, m, rfl⟩
    exact ⟨0, true, L.drop k, rfl, .inr ⟨hg', rfl, rfl, rfl⟩, ⟨v, k, h1, h2, rfl, ⟨by go_simp, by go_simp, by go_simp⟩, by go_simp, by go_simp, by go_simp⟩, Oth.one _ _ _ _ _⟩
theorem rdone_any {W : World} {g : Nat} {L R : List Int} {b : Bool} {w : World} (h : RS W g L R b w) (hb : Below W.heap.size W w) :
    Calls Tryd.prog 58 #[.pointer (some ⟨g, 0, none⟩)] w fun e w' => e = .returned (.bool (!b && R.isEmpty)) ∧ ∃ m, w' = w.drewN m := by
  obtain ⟨v, k, h1, h2, rfl, hs⟩ := h
  have := RSt.done g L v k b w (h1.below hb) hs
  have e : decide (k = L.length) = (L.drop k).isEmpty := by
    rw [Bool.eq_iff_iff, decide_eq_true_eq, List.isEmpty_iff, List.drop_eq_nil_iff]
    omega
  rw [e] at this
  exact this
end Go.Proofs.YtgnopnifdiipkaaDoor
