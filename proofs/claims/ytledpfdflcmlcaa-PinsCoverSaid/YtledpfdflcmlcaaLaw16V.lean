/- The walk of PinsCover. -/
import Derived.Test.YtledpfdflcmlcaaKn16
import Derived.Test.YtledpfdflcmlcaaPnK
import Derived.Test.YtledpfdflcmlcaaOthI
namespace Go.Proofs.Ytledpfdflcmlcaa
open Go.RowKit
set_option linter.unusedVariables false
set_option linter.unusedSimpArgs false

theorem addV_lenC (L : List Pn) (c : Int) : (addV L c).length ≤ L.length + 1 := by
  unfold addV
  have := addP_len c L
  split
  · exact this
  · simp
theorem remV_lenC (L : List Pn) (c : Int) : (remV L c).length ≤ L.length := by
  unfold remV
  have := remP_len c L
  split
  · exact this
  · simp

set_option maxRecDepth 100000 in
set_option maxHeartbeats 8000000 in
theorem pinsCover_walk (a0 : Option Addr) (len0 cap0 : Nat) (z0 : List Int) (a1 : Int) (a2 : Int) (a3 : Int) (W : World) (w0 : InRow .i64 W a0 len0 cap0 z0) (w1 : (Lit.int .i64 a1).wf = true) (w2 : (Lit.int .i64 a2).wf = true) (w3 : (Lit.int .i64 a3).wf = true) :
    Calls Try.prog 6 #[.slice a0 len0 cap0, .int .i64 a1, .int .i64 a2, .int .i64 a3] W fun e w' => e = .returned (.bool true) ∧ Below W.heap.size W w' := by
  have hmade := made16_any (z0.take len0) _ W (inRow_rdJ w0)
  have H0 := Lib.hid (Below.refl W.heap.size W)

  have m1 := mask4k a1
  have m2 := mask4k a2
  have m3 := mask5k a3
  have r1 : 0 ≤ a1 % 16 ∧ a1 % 16 ≤ 15 := by omega
  have r2 : 0 ≤ a2 % 16 ∧ a2 % 16 ≤ 15 := by omega
  have r3 : 0 ≤ a3 % 32 ∧ a3 % 32 ≤ 31 := by omega
  clear w0 w1 w2 w3
  generalize a1 % 16 = s at *
  generalize a2 % 16 = y at *
  generalize a3 % 32 = k at *
  go_enter Try.func6, Try.ntmps6

  go_upto_region 2 with (first
    | (go_at_call 7; refine (hmade).mono ?_; rintro e w1 ⟨L, vp, hL, rfl, ho, hb1⟩; have H1 := Lib.hid (bgo H0.out hb1); have P1 := Lib.hid ho.rd; clear hb1 H0 ho hmade))
  have HA := Lib.hid (fun w (h : RdPn L vp w) => paddp_any L vp k w h (by omega) ⟨by omega, by omega⟩)
  have HXL : (addV L k).length ≤ 1000000000000 := by have := addV_lenC L k; omega
  by_cases he : addE L k = 0
  · have eV : addV L k = addP k L := by unfold addV; rw [if_pos he]
    have hc1 : covP k (k + 1) (addV L k) = true := by rw [eV, covP_add]; simp [conP]; right; omega
    have hc2 : covP s (s + 1 + y) (addV L k) = (covP s (s + 1 + y) L || (decide (s ≤ k) && decide (k < s + 1 + y))) := by
      rw [eV, covP_add]
      have : ¬ s + 1 + y = 0 := by omega
      simp [conP, this]
    rw [he] at HA
    clear he eV
    generalize addV L k = X at *
    have KP := Lib.hid (fun w (h : RdPn L vp w) => pcovp_any L vp s (s + 1 + y) w h (by omega))
    have KQ := Lib.hid (fun v w (h : RdPn X v w) => pcovp_any X v s (s + 1 + y) w h HXL)
    have KO := Lib.hid (fun v w (h : RdPn X v w) => pcovp_any X v k (k + 1) w h HXL)
    rw [hc1] at KO
    clear hc1 HXL
    by_cases hp : covP s (s + 1 + y) L = true
    · have K1 := Lib.hid (fun w (h : RdPn L vp w) => pcovp_any L vp s (s + 1 + y + 1) w h (by omega))
      have K2 := Lib.hid (fun w (h : RdPn L vp w) => pcovp_any L vp s 0 w h (by omega))
      rw [covP_mono (t := s + 1 + y) (fun m h => by simp [conP] at h ⊢; omega) hp] at K1
      rw [covP_mono (t := s + 1 + y) (fun m h => by simp [conP] at h ⊢; omega) hp] at K2
      rw [hc2, hp, Bool.true_or] at KQ
      rw [hp] at KP
      clear hc2 hp
      go_wp2_with (first
        | (go_at_call 8; refine (HA.out _ P1.out).mono ?_; rintro e w2 ⟨uX, rfl, ho, hb2⟩; have H2 := Lib.hid (bgo H1.out hb2); have P2 := Lib.hid (P1.out.below hb2); have X2 := Lib.hid ho.rd; clear hb2 H1 P1 ho)
        | (go_at_call 18; refine (KP.out _ P2.out).mono ?_; rintro e w3 ⟨rfl, hb3⟩; have H3 := Lib.hid (bgo H2.out hb3); have P3 := Lib.hid (P2.out.below hb3); have X3 := Lib.hid (X2.out.below hb3); clear hb3 H2 P2 X2)
        | (go_at_call 18; refine (KQ.out _ _ X3.out).mono ?_; rintro e w4 ⟨rfl, hb4⟩; have H4 := Lib.hid (bgo H3.out hb4); have P4 := Lib.hid (P3.out.below hb4); have X4 := Lib.hid (X3.out.below hb4); clear hb4 H3 P3 X3)
        | (go_at_call 18; refine (K1.out _ P4.out).mono ?_; rintro e w5 ⟨rfl, hb5⟩; have H5 := Lib.hid (bgo H4.out hb5); have P5 := Lib.hid (P4.out.below hb5); have X5 := Lib.hid (X4.out.below hb5); clear hb5 H4 P4 X4)
        | (go_at_call 18; refine (K2.out _ P5.out).mono ?_; rintro e w6 ⟨rfl, hb6⟩; have H6 := Lib.hid (bgo H5.out hb6); have P6 := Lib.hid (P5.out.below hb6); have X6 := Lib.hid (X5.out.below hb6); clear hb6 H5 P5 X5)
        | (go_at_call 18; refine (KO.out _ _ X6.out).mono ?_; rintro e w7 ⟨rfl, hb7⟩; have H7 := Lib.hid (bgo H6.out hb7); have P7 := Lib.hid (P6.out.below hb7); have X7 := Lib.hid (X6.out.below hb7); clear hb7 H6 P6 X6)
        | (go_at_call 18; refine (KQ.out _ _ X7.out).mono ?_; rintro e w8 ⟨rfl, hb8⟩; have H8 := Lib.hid (bgo H7.out hb8); have P8 := Lib.hid (P7.out.below hb8); have X8 := Lib.hid (X7.out.below hb8); clear hb8 H7 P7 X7)
        | (go_at_call 18; refine (KP.out _ P8.out).mono ?_; rintro e w9 ⟨rfl, hb9⟩; have H9 := Lib.hid (bgo H8.out hb9); have P9 := Lib.hid (P8.out.below hb9); have X9 := Lib.hid (X8.out.below hb9); clear hb9 H8 P8 X8)
        | (go_at_call 15; refine (known16_any _).mono ?_; rintro e w10 ⟨rfl, hb10⟩; have H10 := Lib.hid (bgo H9.out hb10); have P10 := Lib.hid (P9.out.below hb10); have X10 := Lib.hid (X9.out.below hb10); clear hb10 H9 P9 X9))
      go_ret
      exact ⟨rfl, H10.out⟩
    · rw [Bool.not_eq_true] at hp
      rw [hc2, hp, Bool.false_or] at KQ
      rw [hp] at KP
      clear hc2 hp
      by_cases h1 : s ≤ k
      · by_cases h2 : k < s + 1 + y
        · rw [decide_eq_true h1, decide_eq_true h2] at KQ
          go_wp2_with (first
            | (go_at_call 8; refine (HA.out _ P1.out).mono ?_; rintro e w2 ⟨uX, rfl, ho, hb2⟩; have H2 := Lib.hid (bgo H1.out hb2); have P2 := Lib.hid (P1.out.below hb2); have X2 := Lib.hid ho.rd; clear hb2 H1 P1 ho)
            | (go_at_call 18; refine (KP.out _ P2.out).mono ?_; rintro e w3 ⟨rfl, hb3⟩; have H3 := Lib.hid (bgo H2.out hb3); have P3 := Lib.hid (P2.out.below hb3); have X3 := Lib.hid (X2.out.below hb3); clear hb3 H2 P2 X2)
            | (go_at_call 18; refine (KO.out _ _ X3.out).mono ?_; rintro e w4 ⟨rfl, hb4⟩; have H4 := Lib.hid (bgo H3.out hb4); have P4 := Lib.hid (P3.out.below hb4); have X4 := Lib.hid (X3.out.below hb4); clear hb4 H3 P3 X3)
            | (go_at_call 18; refine (KQ.out _ _ X4.out).mono ?_; rintro e w5 ⟨rfl, hb5⟩; have H5 := Lib.hid (bgo H4.out hb5); have P5 := Lib.hid (P4.out.below hb5); have X5 := Lib.hid (X4.out.below hb5); clear hb5 H4 P4 X4)
            | (go_at_call 18; refine (KP.out _ P5.out).mono ?_; rintro e w6 ⟨rfl, hb6⟩; have H6 := Lib.hid (bgo H5.out hb6); have P6 := Lib.hid (P5.out.below hb6); have X6 := Lib.hid (X5.out.below hb6); clear hb6 H5 P5 X5)
            | (go_at_call 15; refine (known16_any _).mono ?_; rintro e w7 ⟨rfl, hb7⟩; have H7 := Lib.hid (bgo H6.out hb7); have P7 := Lib.hid (P6.out.below hb7); have X7 := Lib.hid (X6.out.below hb7); clear hb7 H6 P6 X6))
          go_ret
          exact ⟨rfl, H7.out⟩
        · rw [decide_eq_true h1, decide_eq_false h2] at KQ
          go_wp2_with (first
            | (go_at_call 8; refine (HA.out _ P1.out).mono ?_; rintro e w2 ⟨uX, rfl, ho, hb2⟩; have H2 := Lib.hid (bgo H1.out hb2); have P2 := Lib.hid (P1.out.below hb2); have X2 := Lib.hid ho.rd; clear hb2 H1 P1 ho)
            | (go_at_call 18; refine (KP.out _ P2.out).mono ?_; rintro e w3 ⟨rfl, hb3⟩; have H3 := Lib.hid (bgo H2.out hb3); have P3 := Lib.hid (P2.out.below hb3); have X3 := Lib.hid (X2.out.below hb3); clear hb3 H2 P2 X2)
            | (go_at_call 18; refine (KO.out _ _ X3.out).mono ?_; rintro e w4 ⟨rfl, hb4⟩; have H4 := Lib.hid (bgo H3.out hb4); have P4 := Lib.hid (P3.out.below hb4); have X4 := Lib.hid (X3.out.below hb4); clear hb4 H3 P3 X3)
            | (go_at_call 18; refine (KQ.out _ _ X4.out).mono ?_; rintro e w5 ⟨rfl, hb5⟩; have H5 := Lib.hid (bgo H4.out hb5); have P5 := Lib.hid (P4.out.below hb5); have X5 := Lib.hid (X4.out.below hb5); clear hb5 H4 P4 X4)
            | (go_at_call 18; refine (KP.out _ P5.out).mono ?_; rintro e w6 ⟨rfl, hb6⟩; have H6 := Lib.hid (bgo H5.out hb6); have P6 := Lib.hid (P5.out.below hb6); have X6 := Lib.hid (X5.out.below hb6); clear hb6 H5 P5 X5)
            | (go_at_call 15; refine (known16_any _).mono ?_; rintro e w7 ⟨rfl, hb7⟩; have H7 := Lib.hid (bgo H6.out hb7); have P7 := Lib.hid (P6.out.below hb7); have X7 := Lib.hid (X6.out.below hb7); clear hb7 H6 P6 X6))
          go_ret
          exact ⟨by first | rfl | (show Ending.returned (Value.bool (!decide (k < s + 1 + y))) = _; rw [decide_eq_false (show ¬ k < s + 1 + y by omega)]; rfl), H7.out⟩
      · rw [decide_eq_false h1, Bool.false_and] at KQ
        go_wp2_with (first
          | (go_at_call 8; refine (HA.out _ P1.out).mono ?_; rintro e w2 ⟨uX, rfl, ho, hb2⟩; have H2 := Lib.hid (bgo H1.out hb2); have P2 := Lib.hid (P1.out.below hb2); have X2 := Lib.hid ho.rd; clear hb2 H1 P1 ho)
          | (go_at_call 18; refine (KP.out _ P2.out).mono ?_; rintro e w3 ⟨rfl, hb3⟩; have H3 := Lib.hid (bgo H2.out hb3); have P3 := Lib.hid (P2.out.below hb3); have X3 := Lib.hid (X2.out.below hb3); clear hb3 H2 P2 X2)
          | (go_at_call 18; refine (KO.out _ _ X3.out).mono ?_; rintro e w4 ⟨rfl, hb4⟩; have H4 := Lib.hid (bgo H3.out hb4); have P4 := Lib.hid (P3.out.below hb4); have X4 := Lib.hid (X3.out.below hb4); clear hb4 H3 P3 X3)
          | (go_at_call 18; refine (KQ.out _ _ X4.out).mono ?_; rintro e w5 ⟨rfl, hb5⟩; have H5 := Lib.hid (bgo H4.out hb5); have P5 := Lib.hid (P4.out.below hb5); have X5 := Lib.hid (X4.out.below hb5); clear hb5 H4 P4 X4)
          | (go_at_call 18; refine (KP.out _ P5.out).mono ?_; rintro e w6 ⟨rfl, hb6⟩; have H6 := Lib.hid (bgo H5.out hb6); have P6 := Lib.hid (P5.out.below hb6); have X6 := Lib.hid (X5.out.below hb6); clear hb6 H5 P5 X5)
          | (go_at_call 15; refine (known16_any _).mono ?_; rintro e w7 ⟨rfl, hb7⟩; have H7 := Lib.hid (bgo H6.out hb7); have P7 := Lib.hid (P6.out.below hb7); have X7 := Lib.hid (X6.out.below hb7); clear hb7 H6 P6 X6))
        go_ret
        exact ⟨rfl, H7.out⟩
  · have HB := Lib.hid (fun w (h : RdPn L vp w) => radd_any L vp k w h (by omega) (by omega))
    generalize addE L k = q at *
    generalize addV L k = X at *
    go_wp2_with (first
      | (go_at_call 8; refine (HA.out _ P1.out).mono ?_; rintro e w2 ⟨uX, rfl, ho, hb2⟩; have H2 := Lib.hid (bgo H1.out hb2); have P2 := Lib.hid (P1.out.below hb2); have X2 := Lib.hid ho.rd; clear hb2 H1 P1 ho)
      | (go_at_call 9; refine (HB.out _ P2.out).mono ?_; rintro e w3 ⟨uY, rfl, ho, hb3⟩; have H3 := Lib.hid (bgo H2.out hb3); have P3 := Lib.hid (P2.out.below hb3); have X3 := Lib.hid (X2.out.below hb3); have Y3 := Lib.hid ho.rd; clear hb3 H2 P2 X2 ho)
      | (go_at_call 15; refine (known16_any _).mono ?_; rintro e w4 ⟨rfl, hb4⟩; have H4 := Lib.hid (bgo H3.out hb4); have P4 := Lib.hid (P3.out.below hb4); have X4 := Lib.hid (X3.out.below hb4); have Y4 := Lib.hid (Y3.out.below hb4); clear hb4 H3 P3 X3 Y3))
    go_ret
    exact ⟨rfl, H4.out⟩
end Go.Proofs.Ytledpfdflcmlcaa
