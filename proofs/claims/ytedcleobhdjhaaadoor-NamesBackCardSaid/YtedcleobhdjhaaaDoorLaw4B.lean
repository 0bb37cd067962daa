/- The walk of the law NamesBack. -/
import Derived.Test.YtedcleobhdjhaaaDoorKnown4
import Derived.Test.YtedcleobhdjhaaaDoorNums
namespace Go.Proofs.YtedcleobhdjhaaaDoor
open Go.RowKit
set_option linter.unusedVariables false
set_option linter.unusedSimpArgs false
theorem formK_len (L : List Int) : (formK L).1.length ≤ 2 * L.length + 1 := by
  unfold formK
  split
  · simp
  · split
    · simp <;> omega
    · rw [List.length_cons, hexL_len]; omega
set_option maxRecDepth 100000 in
set_option maxHeartbeats 2000000 in
theorem namesBack_walk (s t : ByteArray) (W : World) (ws : s.size ≤ maxLen) (wt : t.size ≤ maxLen) (ht : Tab10 W) :
    Calls Tryd.prog 5 #[.string s, .string t] W fun e w' => e = .returned (.bool true) ∧ Below W.heap.size W w' := by
  have h7 := fun w (hb : Below W.heap.size W w) => known_any w (ht.below hb)
  have g1 : s.size ≤ 9223372036854775807 := by unfold maxLen at ws; omega
  have g2 : t.size ≤ 9223372036854775807 := by unfold maxLen at wt; omega
  clear ht
  by_cases hl : 200 < s.size ∨ 200 < t.size
  · by_cases hl1 : 200 < s.size
    all_goals
      go_enter Tryd.func5, Tryd.ntmps5
      go_wp2_with (go_at_call 15; refine (h7 _ (Below.refl _ _)).mono ?_; rintro e w3 ⟨rfl, hb3⟩)
      go_ret
      exact ⟨rfl, hb3⟩
  · have l1 : s.size ≤ 200 := by omega
    have l2 : t.size ≤ 200 := by omega
    have h1 := fun w => formatKey_any s w ws
    have h2 := fun w => parseKey_any t w (by omega)
    have h3 := fun w => isKey_any s w ws
    have hys := byt_byt s
    have hfl := formK_len (byt s)
    have hpf := par_form (L := byt s) hys
    have hfp := form_par (L := byt t)
    have hk := formK_key (byt s)
    rw [byt_len] at hfl
    -- what was formatted, read
    have h4 : (formK (byt s)).2 = 0 → ∀ w, Calls Tryd.prog 19 #[.string (strOfNums (formK (byt s)).1)] w fun e w' => e = .returned (.tuple #[.string s, .int .i64 0]) ∧ Below w.heap.size w w' := fun h0 w => by
      have h := parseKey_any (strOfNums (formK (byt s)).1) w (by rw [str_size]; omega)
      rw [byt_str (form_byt hys), hpf h0, str_byt] at h
      exact h
    -- what was read, formatted
    have h5 : (parK (byt t)).2 = 0 → ∀ w, Calls Tryd.prog 17 #[.string (strOfNums (parK (byt t)).1)] w fun e w' => e = .returned (.tuple #[.string t, .int .i64 0]) ∧ Below w.heap.size w w' := fun h0 w => by
      have hyp : Byt (parK (byt t)).1 := by
        unfold parK
        split
        · exact keyOf_byt (byt_byt t)
        · exact Byt.nil
      have hpl : (parK (byt t)).1.length ≤ 200 := by
        unfold parK
        split
        · have := keyOf_len (byt t); rw [byt_len] at this; simp <;> omega
        · simp
      have h := formatKey_any (strOfNums (parK (byt t)).1) w (by rw [str_size]; unfold maxLen; omega)
      rw [byt_str hyp, hfp h0, str_byt] at h
      exact h
    have hkb : ((formK (byt s)).2 == 0) = keyB (byt s) := by
      rw [Bool.eq_iff_iff]; simpa using hk
    clear hpf hfp hfl hys hk ws wt hl
    generalize strOfNums (formK (byt s)).1 = A at *
    generalize (formK (byt s)).2 = E at *
    generalize strOfNums (parK (byt t)).1 = B at *
    generalize (parK (byt t)).2 = G at *
    generalize keyB (byt s) = K at *
    by_cases hE : E = 0
    all_goals by_cases hG : G = 0
    · subst hE hG
      obtain rfl : true = K := hkb
      have k4 := h4 rfl
      have k5 := h5 rfl
      clear h4 h5
      go_enter Tryd.func5, Tryd.ntmps5
      go_wp2_with (first
        | (go_at_call 17; first
          | ((with_reducible refine (h1 _).mono ?_); rintro e w1 ⟨rfl, hb1⟩)
          | ((with_reducible refine (k5 _).mono ?_); rintro e w4 ⟨rfl, hb4⟩; have hb14 := hb13.trans (hb4.mono hb13.size)))
        | (go_at_call 19; first
          | ((with_reducible refine (k4 _).mono ?_); rintro e w2 ⟨rfl, hb2⟩; have hb12 := hb1.trans (hb2.mono hb1.size))
          | ((with_reducible refine (h2 _).mono ?_); rintro e w3 ⟨rfl, hb3⟩; have hb13 := hb12.trans (hb3.mono hb12.size)))
        | (go_at_call 11; refine (h3 _).mono ?_; rintro e w' ⟨rfl, rfl⟩)
        | (go_at_call 15; refine (h7 _ hb14).mono ?_; rintro e w5 ⟨rfl, hb5⟩))
      go_ret
      exact ⟨rfl, hb14.trans (hb5.mono hb14.size)⟩
    · subst hE
      obtain rfl : true = K := hkb
      have hg0 : (G == 0) = false := beq_eq_false_iff_ne.2 hG
      clear h5
      have k4 := h4 rfl
      clear h4
      go_enter Tryd.func5, Tryd.ntmps5
      go_wp2_with (first
        | (go_at_call 17; refine (h1 _).mono ?_; rintro e w1 ⟨rfl, hb1⟩)
        | (go_at_call 19; first
          | ((with_reducible refine (k4 _).mono ?_); rintro e w2 ⟨rfl, hb2⟩; have hb12 := hb1.trans (hb2.mono hb1.size))
          | ((with_reducible refine (h2 _).mono ?_); rintro e w3 ⟨rfl, hb3⟩; have hb13 := hb12.trans (hb3.mono hb12.size)))
        | (go_at_call 11; refine (h3 _).mono ?_; rintro e w' ⟨rfl, rfl⟩)
        | (go_at_call 15; refine (h7 _ hb13).mono ?_; rintro e w5 ⟨rfl, hb5⟩))
      go_ret
      exact ⟨rfl, hb13.trans (hb5.mono hb13.size)⟩
    · subst hG
      have he0 : (E == 0) = false := beq_eq_false_iff_ne.2 hE
      rw [he0] at hkb
      subst hkb
      clear h4
      have k5 := h5 rfl
      clear h5
      go_enter Tryd.func5, Tryd.ntmps5
      go_wp2_with (first
        | (go_at_call 17; first
          | ((with_reducible refine (h1 _).mono ?_); rintro e w1 ⟨rfl, hb1⟩)
          | ((with_reducible refine (k5 _).mono ?_); rintro e w4 ⟨rfl, hb4⟩; have hb14 := hb13.trans (hb4.mono hb13.size)))
        | (go_at_call 19; refine (h2 _).mono ?_; rintro e w3 ⟨rfl, hb3⟩; have hb13 := hb1.trans (hb3.mono hb1.size))
        | (go_at_call 11; refine (h3 _).mono ?_; rintro e w' ⟨rfl, rfl⟩)
        | (go_at_call 15; refine (h7 _ hb14).mono ?_; rintro e w5 ⟨rfl, hb5⟩))
      go_ret
      exact ⟨rfl, hb14.trans (hb5.mono hb14.size)⟩
    · have he0 : (E == 0) = false := beq_eq_false_iff_ne.2 hE
      have hg0 : (G == 0) = false := beq_eq_false_iff_ne.2 hG
      rw [he0] at hkb
      subst hkb
      clear h4 h5
      go_enter Tryd.func5, Tryd.ntmps5
      go_wp2_with (first
        | (go_at_call 17; refine (h1 _).mono ?_; rintro e w1 ⟨rfl, hb1⟩)
        | (go_at_call 19; refine (h2 _).mono ?_; rintro e w3 ⟨rfl, hb3⟩; have hb13 := hb1.trans (hb3.mono hb1.size))
        | (go_at_call 11; refine (h3 _).mono ?_; rintro e w' ⟨rfl, rfl⟩)
        | (go_at_call 15; refine (h7 _ hb13).mono ?_; rintro e w5 ⟨rfl, hb5⟩))
      go_ret
      exact ⟨rfl, hb13.trans (hb5.mono hb13.size)⟩
end Go.Proofs.YtedcleobhdjhaaaDoor
