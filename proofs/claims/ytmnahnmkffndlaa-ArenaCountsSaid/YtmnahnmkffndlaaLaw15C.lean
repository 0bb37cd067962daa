/- The walk of ArenaCounts. -/
import Derived.Test.YtmnahnmkffndlaaKn15
namespace Go.Proofs.Ytmnahnmkffndlaa
open Go.RowKit Go.Maps
set_option linter.unusedVariables false
set_option linter.unusedSimpArgs false
theorem mask4c (n : Int) : bits .and .i64 n 15 = n % 16 := i64_mask 4 (by decide) n
/-- The arena when i of M + 1 releases have been done. -/
def restC (M i : Nat) : List Pg := if i ≤ M then [⟨1, (M : Int) + 1 - i, [7]⟩] else []
def restLo (M i : Nat) : Int := if i ≤ M then 2 else 1
set_option maxRecDepth 100000 in
set_option maxHeartbeats 1000000 in
theorem counts15 (n : Int) (M : Nat) (w : World) (hM : M ≤ 15) (hj : bits .and .i64 n 15 = (M : Int)) :
    Calls Try.prog 6 #[.int .i64 n] w fun e w' => e = .returned (.bool true) ∧ Below w.heap.size w w' := by
  have hnew := arNew_any 1 w (by decide) (by decide)
  have hK : InI 1 := ⟨by decide, by decide⟩
  go_enter Try.func6, Try.ntmps6
  go_wp2_with (first
    | (go_at_call 7; refine hnew.mono ?_; rintro e w1 ⟨rfl, a1, b1', -⟩; have A1 := Lib.hid (a1 w.heap.size); have B1 := Lib.hid b1'; clear a1 b1' hnew)
    | (go_at_call 9; refine (alloc_to (A1.out.below (b1 _)) w1.heap.size [7] _ (Own.one (by decide) w1) (by decide) (by decide) (by have := B1.out.size; simp; omega) (n := 1) rfl rfl).mono ?_; rintro e w2 ⟨rfl, a2, t2⟩; have A2 := Lib.hid a2; have B2 := Lib.hid (bTn (bal B1.out _) t2 (by omega) (by omega)); clear A1 B1 a2 t2))
  go_loopw [7] (fun v wr => ∃ i : Nat, i ≤ M ∧ v = .int .i64 (i : Int) ∧ Hid (ArAt w.heap.size (w.heap.size + 1) w.heap.size 1 2 [⟨1, 1 + (i : Int), [7]⟩] wr) ∧ Hid (Below w.heap.size w wr)) (fun v _ => M - (intOf v).toNat)
  case atStart => exact ⟨0, by omega, rfl, Lib.hid A2.out, B2⟩
  case round =>
    obtain ⟨i, hi, rfl, HA, HB⟩ := hrel
    by_cases hlt : i < M
    · have hki : (i : Int) < (M : Int) := by omega
      have hh := hold_some HA.out 1 hK (p := ⟨1, 1 + (i : Int), [7]⟩) rfl (by show 1 + (i : Int) < _; omega)
      go_wp2_with (go_at_call 11; refine hh.mono ?_; rintro e w3 ⟨rfl, a3, t3⟩; have A3 := Lib.hid a3; have B3 := Lib.hid (bTn HB.out t3 (by omega) (by omega)); clear a3 t3)
      go_roundw
      case rel => exact ⟨i + 1, by omega, by go_num, Lib.hid (by have := A3.out; simpa [setP, Int.add_assoc] using this), B3⟩
      case measure => simp [intOf]; omega
    · obtain rfl : i = M := by omega
      go_wp2
      go_loopw [8] (fun v wr => ∃ j : Nat, j ≤ i + 1 ∧ v = .int .i64 (j : Int) ∧ Hid (ArAt w.heap.size (w.heap.size + 1) w.heap.size 1 (restLo i j) (restC i j) wr) ∧ Hid (Below w.heap.size w wr)) (fun v _ => i + 1 - (intOf v).toNat)
      case atStart => exact ⟨0, by omega, rfl, Lib.hid (by have := HA.out; simpa [restC, restLo, Int.add_comm] using this), HB⟩
      case round =>
        obtain ⟨j, hj2, rfl, HC, HD⟩ := hrel
        have hlv := live_any HC.out
        by_cases hlt2 : j ≤ i
        · have hki : (j : Int) ≤ (i : Int) := by omega
          have eL : restC i j = [⟨1, (i : Int) + 1 - j, [7]⟩] := by unfold restC; rw [if_pos hlt2]
          have eO : restLo i j = 2 := by unfold restLo; rw [if_pos hlt2]
          rw [eL] at hlv
          rw [eL, eO] at HC
          by_cases hlast : j = i
          · have hji : (j : Int) = (i : Int) := by omega
            have hh := rel_last HC.out 1 hK (p := ⟨1, (i : Int) + 1 - j, [7]⟩) rfl (by show (i : Int) + 1 - j = 1; omega)
            have HE := Lib.hid (show restC i (j + 1) = [] by unfold restC; rw [if_neg (by omega)])
            have HO := Lib.hid (show restLo i (j + 1) = 1 by unfold restLo; rw [if_neg (by omega)])
            clear eL eO
            go_wp2_with (first
              | (go_at_call 17; refine hlv.mono ?_; rintro e w3 ⟨rfl, rfl⟩)
              | (go_at_call 13; refine hh.mono ?_; rintro e w3 ⟨rfl, a3, t3⟩; have A3 := Lib.hid a3; have B3 := Lib.hid (bTn HD.out t3 (by omega) (by omega)); clear a3 t3))
            go_roundw
            case rel => exact ⟨j + 1, by omega, by go_num, Lib.hid (by rw [HE.out, HO.out]; exact A3.out), B3⟩
            case measure => simp [intOf]; omega
          · have hji : ¬ (j : Int) = (i : Int) := by omega
            have hh := rel_some HC.out 1 hK (p := ⟨1, (i : Int) + 1 - j, [7]⟩) rfl (by show ¬ (i : Int) + 1 - j = 1; omega)
            have HE := Lib.hid (show restC i (j + 1) = [⟨1, (i : Int) + 1 - j - 1, [7]⟩] by unfold restC; rw [if_pos (by omega)]; congr 2; omega)
            have HO := Lib.hid (show restLo i (j + 1) = 2 by unfold restLo; rw [if_pos (by omega)])
            clear eL eO
            go_wp2_with (first
              | (go_at_call 17; refine hlv.mono ?_; rintro e w3 ⟨rfl, rfl⟩)
              | (go_at_call 13; refine hh.mono ?_; rintro e w3 ⟨rfl, a3, t3⟩; have A3 := Lib.hid a3; have B3 := Lib.hid (bTn HD.out t3 (by omega) (by omega)); clear a3 t3))
            go_roundw
            case rel => exact ⟨j + 1, by omega, by go_num, Lib.hid (by rw [HE.out, HO.out]; exact A3.out), B3⟩
            case measure => simp [intOf]; omega
        · have hki : ¬ (j : Int) ≤ (i : Int) := by omega
          have eL : restC i j = [] := by unfold restC; rw [if_neg hlt2]
          have eO : restLo i j = 1 := by unfold restLo; rw [if_neg hlt2]
          rw [eL, eO] at HC
          have hh := rel_none HC.out 1 hK rfl
          clear hlv eL eO
          go_wp2_with (first
            | (go_at_call 13; refine hh.mono ?_; rintro e w3 ⟨rfl, b3⟩; have A3 := Lib.hid (HC.out.below b3); have B3 := Lib.hid (bgo HD.out b3); clear b3)
            | (go_at_call 17; refine (live_any A3.out).mono ?_; rintro e w4 ⟨rfl, rfl⟩)
            | (go_at_call 11; refine (hold_none A3.out 1 hK rfl).mono ?_; rintro e w4 ⟨rfl, b4⟩; have B4 := Lib.hid (bgo B3.out b4); clear b4)
            | (go_at_call 20; refine (known15_any _).mono ?_; rintro e w5 ⟨rfl, b5⟩; have B5 := Lib.hid (bgo B4.out b5); clear b5))
          go_ret
          exact ⟨rfl, B5.out⟩
theorem arenaCounts_walk (n : Int) (w : World) (hn : (Lit.int .i64 n).wf = true) :
    Calls Try.prog 6 #[.int .i64 n] w fun e w' => e = .returned (.bool true) ∧ Below w.heap.size w w' := by
  have h1 := mask4c n
  obtain ⟨M, hM⟩ : ∃ M : Nat, n % 16 = (M : Int) := ⟨(n % 16).toNat, by omega⟩
  rw [hM] at h1
  exact counts15 n M w (by omega) h1
end Go.Proofs.Ytmnahnmkffndlaa
