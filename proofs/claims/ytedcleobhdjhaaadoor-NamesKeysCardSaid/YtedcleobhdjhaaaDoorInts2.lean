/- The contracts of ParseInt and FormatInt of package names and of the reference, continued. -/
import Derived.Test.YtedcleobhdjhaaaDoorInts
import Derived.Test.YtedcleobhdjhaaaDoorParse
namespace Go.Proofs.YtedcleobhdjhaaaDoor
open Go.RowKit
set_option linter.unusedVariables false
set_option linter.unusedSimpArgs false
theorem pd_at (D : List Int) (hy : Byt D) (hl : D.length ≤ 9223372036854775807) (w : World) :
    Calls Tryd.prog 44 #[.string (strOfNums D)] w (PdPost (pdV D) w) := by
  have h := pd_any (strOfNums D) w (by rw [str_size]; unfold maxLen; omega)
  rwa [byt_str hy] at h
theorem okD_parts {L : List Int} (h : okD L = true) : L.length ≤ 12 ∧ 1 ≤ L.length ∧ L.all digB = true ∧ (L.getD 0 0 = 48 → L.length = 1) := by
  unfold okD at h
  rw [Bool.and_eq_true, Bool.and_eq_true, Bool.and_eq_true, decide_eq_true_eq, decide_eq_true_eq] at h
  obtain ⟨⟨⟨h1, h2⟩, h3⟩, h4⟩ := h
  refine ⟨h2, h1, h4, fun h48 => ?_⟩
  rw [h48] at h3
  simp at h3
  omega
theorem okD_bd {L : List Int} (h : okD L = true) : 0 ≤ digV L ∧ digV L < 1000000000000 := by
  obtain ⟨h1, h2, h3, _⟩ := okD_parts h
  have := digV_lt (L := L) (k := L.length) h1 (by rw [List.take_length]; exact h3)
  rwa [List.take_length] at this
theorem opens (c : Int) (L : List Int) : (∃ D, L = c :: D) ∨ (∀ D, L ≠ c :: D) := by
  by_cases h : ∃ D, L = c :: D
  · exact .inl h
  · exact .inr fun D e => h ⟨D, e⟩
set_option maxRecDepth 100000 in
theorem parseInt_any (s : ByteArray) (w : World) (hs : s.size ≤ maxLen) :
    Calls Tryd.prog 26 #[.string s] w fun e w' => e = .returned (.tuple #[.int .i64 (parI (byt s)).1, .int .i64 (parI (byt s)).2]) ∧ w = w' := by
  unfold maxLen at hs
  rcases opens 45 (byt s) with ⟨D, hD⟩ | hD
  · have hc := fun w => cut_yes s 45 D hD w
    have hyD : Byt D := fun n hn => byt_byt s n (by rw [hD]; simp [hn])
    have hlD : D.length + 1 = s.size := by rw [← byt_len, hD]; rfl
    have hp := fun w => pd_at D hyD (by omega) w
    unfold PdPost pdV at hp
    rw [hD, parI_neg]
    clear hyD hD
    cases ho : okD D
    · rw [ho] at hp
      simp only [Bool.false_eq_true, false_and, if_false] at hp ⊢
      clear ho
      generalize strOfNums D = DS at *
      go_enter Tryd.func26, Tryd.ntmps26
      go_wp2_with (first
        | (go_at_call 38; refine (hc _).mono ?_; rintro e w' ⟨rfl, rfl⟩)
        | (go_at_call 44; refine (hp _).mono ?_; rintro e w' ⟨rfl, rfl⟩))
      go_ret2
      exact ⟨rfl, rfl⟩
    · have hv := okD_bd ho
      rw [ho] at hp
      simp only [true_and, if_true] at hp ⊢
      clear ho
      generalize strOfNums D = DS at *
      generalize digV D = n at *
      by_cases hn : n = 0
      · subst hn
        go_enter Tryd.func26, Tryd.ntmps26
        go_wp2_with (first
          | (go_at_call 38; refine (hc _).mono ?_; rintro e w' ⟨rfl, rfl⟩)
          | (go_at_call 44; refine (hp _).mono ?_; rintro e w' ⟨rfl, rfl⟩))
        go_ret2
        exact ⟨rfl, rfl⟩
      · rw [if_pos hn]
        have hn1 : (n == 0) = false := beq_eq_false_iff_ne.2 hn
        have hn2 : (n != 0) = true := by simp [hn]
        go_enter Tryd.func26, Tryd.ntmps26
        go_wp2_with (first
          | (go_at_call 38; refine (hc _).mono ?_; rintro e w' ⟨rfl, rfl⟩)
          | (go_at_call 44; refine (hp _).mono ?_; rintro e w' ⟨rfl, rfl⟩))
        go_ret2
        exact ⟨rfl, rfl⟩
  · have hc := fun w => cut_no s 45 hD w
    have hp := fun w => pd_any s w (by unfold maxLen; omega)
    unfold PdPost pdV at hp
    rw [parI_pos hD]
    clear hD
    cases ho : okD (byt s)
    all_goals
      rw [ho] at hp
      simp only [Bool.false_eq_true, if_true, if_false] at hp ⊢
      clear ho
      generalize digV (byt s) = n at *
      go_enter Tryd.func26, Tryd.ntmps26
      go_wp2_with (first
        | (go_at_call 38; refine (hc _).mono ?_; rintro e w' ⟨rfl, rfl⟩)
        | (go_at_call 44; refine (hp _).mono ?_; rintro e w' ⟨rfl, rfl⟩))
      go_ret2
      exact ⟨rfl, rfl⟩
/-- What the call may lean on: the table of the powers of ten. -/
def Tab10 (w : World) : Prop := Lib.TabIs Tryd.prog w "internal/strconv.uint64pow10" .u64 Lib.pow10Tab
theorem Tab10.below {w w' : World} (h : Tab10 w) (hb : Below w.heap.size w w') : Tab10 w' := Lib.tabBelow_of_tabIs h w' hb
theorem itoa_any (n : Int) (w : World) (n0 : -9223372036854775808 ≤ n) (n1 : n ≤ 9223372036854775807) (ht : Tab10 w) :
    Calls Tryd.prog 45 #[.int .i64 n] w fun e w' => e = .returned (.string (strOfNums (itoI n))) ∧ Below w.heap.size w w' := by
  refine (Tryd.strconv_Itoa n n0 n1 w ht).mono ?_
  rintro e w' ⟨rfl, k, os, rfl⟩
  exact ⟨by rw [mk_str]; rfl, Lib.below_grow _ _ (Nat.le_refl _) _ _⟩
theorem formatInt_any (n : Int) (w : World) (n0 : -9223372036854775808 ≤ n) (n1 : n ≤ 9223372036854775807) (ht : Tab10 w) :
    Calls Tryd.prog 28 #[.int .i64 n] w fun e w' => e = .returned (.string (strOfNums (itoI n))) ∧ Below w.heap.size w w' := by
  have hi := itoa_any n w n0 n1 ht
  go_enter Tryd.func28, Tryd.ntmps28
  go_wp2_with (go_at_call 45; refine hi.mono ?_; rintro e w' ⟨rfl, hb⟩)
  go_ret
  exact ⟨rfl, hb⟩
theorem rformatInt_any (n : Int) (w : World) (n0 : -9223372036854775808 ≤ n) (n1 : n ≤ 9223372036854775807) (ht : Tab10 w) :
    Calls Tryd.prog 29 #[.int .i64 n] w fun e w' => e = .returned (.string (strOfNums (itoI n))) ∧ Below w.heap.size w w' := by
  have hi := itoa_any n w n0 n1 ht
  go_enter Tryd.func29, Tryd.ntmps29
  go_wp2_with (go_at_call 45; refine hi.mono ?_; rintro e w' ⟨rfl, hb⟩)
  go_ret
  exact ⟨rfl, hb⟩
end Go.Proofs.YtedcleobhdjhaaaDoor
