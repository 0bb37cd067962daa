/- The contract of sketchstorelaw4.known: the chapter's examples come out as the chapter says. -/
import Derived.Test.YtedcleobhdjhaaaDoorRInts
namespace Go.Proofs.YtedcleobhdjhaaaDoor
open Go.RowKit
set_option linter.unusedVariables false
set_option linter.unusedSimpArgs false
theorem k_form (w : World) : Calls Tryd.prog 17 #[.string ⟨#[97, 32, 98]⟩] w fun e w' => e = .returned (.tuple #[.string ⟨#[37, 54, 49, 50, 48, 54, 50]⟩, .int .i64 0]) ∧ Below w.heap.size w w' := by
  have h := formatKey_any ⟨#[97, 32, 98]⟩ w (by decide)
  have e : formK (byt ⟨#[97, 32, 98]⟩) = ([37, 54, 49, 50, 48, 54, 50], 0) := by decide +kernel
  have e2 : strOfNums [37, 54, 49, 50, 48, 54, 50] = ⟨#[37, 54, 49, 50, 48, 54, 50]⟩ := by decide +kernel
  rw [e, e2] at h
  exact h
theorem k_par (w : World) : Calls Tryd.prog 19 #[.string ⟨#[37, 54, 49, 50, 48, 54, 50]⟩] w fun e w' => e = .returned (.tuple #[.string ⟨#[97, 32, 98]⟩, .int .i64 0]) ∧ Below w.heap.size w w' := by
  have h := parseKey_any ⟨#[37, 54, 49, 50, 48, 54, 50]⟩ w (by decide)
  have e : parK (byt ⟨#[37, 54, 49, 50, 48, 54, 50]⟩) = ([97, 32, 98], 0) := by decide +kernel
  have e2 : strOfNums [97, 32, 98] = ⟨#[97, 32, 98]⟩ := by decide +kernel
  rw [e, e2] at h
  exact h
theorem k_no (w : World) : Calls Tryd.prog 19 #[.string ⟨#[37, 54, 49]⟩] w fun e w' => e = .returned (.tuple #[.string ⟨#[]⟩, .int .i64 1]) ∧ Below w.heap.size w w' := by
  have h := parseKey_any ⟨#[37, 54, 49]⟩ w (by decide)
  have e : parK (byt ⟨#[37, 54, 49]⟩) = ([], 1) := by decide +kernel
  have e2 : strOfNums [] = ⟨#[]⟩ := by decide +kernel
  rw [e, e2] at h
  exact h
theorem itoI_m7 : itoI (-7) = [45, 55] := by
  have e : itoI (-((7 : Nat) : Int)) = 45 :: decI 7 := by rw [itoI, Lib.itoa_neg 7 (by omega)]; rfl
  have e2 : ((7 : Nat) : Int) = 7 := rfl
  rw [e2] at e
  rw [e, decI_small (by omega)]
  rfl
theorem k_int (w : World) (ht : Tab10 w) : Calls Tryd.prog 28 #[.int .i64 (-7)] w fun e w' => e = .returned (.string ⟨#[45, 55]⟩) ∧ Below w.heap.size w w' := by
  have h := formatInt_any (-7) w (by omega) (by omega) ht
  have e2 : strOfNums [45, 55] = ⟨#[45, 55]⟩ := by decide +kernel
  rw [itoI_m7, e2] at h
  exact h
theorem k_name (w : World) : Calls Tryd.prog 9 #[.string ⟨#[97, 45, 49]⟩] w fun e w' => e = .returned (.bool true) ∧ w = w' := by
  have h := isName_any ⟨#[97, 45, 49]⟩ w (by decide)
  have e : nameB (byt ⟨#[97, 45, 49]⟩) = true := by decide +kernel
  rw [e] at h
  exact h
set_option maxRecDepth 100000 in
set_option maxHeartbeats 1000000 in
theorem known_any (w : World) (ht : Tab10 w) : Calls Tryd.prog 15 #[] w fun e w' => e = .returned (.bool true) ∧ Below w.heap.size w w' := by
  have k4 := fun w' (hb : Below w.heap.size w w') => k_int w' (ht.below hb)
  go_enter Tryd.func15, Tryd.ntmps15
  go_wp2_with (first
    | (go_at_call 17; refine (k_form _).mono ?_; rintro e w1 ⟨rfl, hb1⟩)
    | (go_at_call 19; first
      | ((with_reducible refine (k_par _).mono ?_); rintro e w2 ⟨rfl, hb2⟩; have hb12 := hb1.trans (hb2.mono hb1.size))
      | ((with_reducible refine (k_no _).mono ?_); rintro e w3 ⟨rfl, hb3⟩; have hb13 := hb12.trans (hb3.mono hb12.size)))
    | (go_at_call 28; refine (k4 _ hb13).mono ?_; rintro e w4 ⟨rfl, hb4⟩; have hb14 := hb13.trans (hb4.mono hb13.size))
    | (go_at_call 9; refine (k_name _).mono ?_; rintro e w' ⟨rfl, rfl⟩))
  go_ret
  exact ⟨rfl, hb14⟩
end Go.Proofs.YtedcleobhdjhaaaDoor
