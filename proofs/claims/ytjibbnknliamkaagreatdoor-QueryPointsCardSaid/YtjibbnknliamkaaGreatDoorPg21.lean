/- RVp: in one text. -/
import Derived.Test.YtjibbnknliamkaaGreatDoorPg18
import Derived.Test.YtjibbnknliamkaaGreatDoorPg03
import Derived.BigRegion
namespace Go.Proofs.YtjibbnknliamkaaGreatDoor
open Go.RowKit
set_option linter.unusedVariables false
set_option linter.unusedSimpArgs false
theorem wi12_any (n l h : Int) (w : World) :
    Calls Tryz.prog 27 #[.int .i64 n, .int .i64 l, .int .i64 h] w fun e w' => e = .returned (.bool (inW n l h)) ∧ w = w' := by
  unfold inW
  go_enter Tryz.func27, Tryz.ntmps27
  go_wp2
  all_goals
    go_ret
    exact ⟨ret_bool (by simp [*] <;> omega), rfl⟩
set_option maxRecDepth 100000 in
set_option maxHeartbeats 2000000 in
theorem rvp0 (D : Int) (x : Int) (hD : D ≠ 0) (hx : x ≠ 0) (w : World) :
    Calls Tryz.prog 48 #[.agg #[.int .i64 1, .int .i64 0, .int .i64 D, .int .u64 x]] w fun e w' => e = .returned (.int .i64 10) ∧ Below w.heap.size w w' := by
  have hD2 : (D == 0) = false := by simp [hD]
  have hx2 : (x == 0) = false := by simp [hx]
  go_enter Tryz.func48, Tryz.ntmps48
  go_wp2
  go_region
  all_goals
    go_wp2
    go_ret
    exact ⟨rfl, by repeat (first | exact Below.refl _ _ | refine bset ?_ _ _ _ (by simp <;> omega) | refine bal ?_ _ | refine below_drew ?_)⟩
set_option maxRecDepth 100000 in
set_option maxHeartbeats 2000000 in
theorem rvp1 (S : Int) (D : Int) (x : Int) (hD : D ≠ 0) (hx : x ≠ 0) (hS : S ≠ 0) (w : World) :
    Calls Tryz.prog 48 #[.agg #[.int .i64 1, .int .i64 S, .int .i64 D, .int .u64 x]] w fun e w' => e = .returned (.int .i64 10) ∧ Below w.heap.size w w' := by
  have hD2 : (D == 0) = false := by simp [hD]
  have hx2 : (x == 0) = false := by simp [hx]
  go_enter Tryz.func48, Tryz.ntmps48
  go_wp2
  go_region
  all_goals
    go_wp2
    go_ret
    exact ⟨rfl, by repeat (first | exact Below.refl _ _ | refine bset ?_ _ _ _ (by simp <;> omega) | refine bal ?_ _ | refine below_drew ?_)⟩
set_option maxRecDepth 100000 in
set_option maxHeartbeats 2000000 in
theorem rvp2 (x : Int) (hx : x ≠ 0) (w : World) :
    Calls Tryz.prog 48 #[.agg #[.int .i64 1, .int .i64 0, .int .i64 0, .int .u64 x]] w fun e w' => e = .returned (.int .i64 10) ∧ Below w.heap.size w w' := by
  have hx2 : (x == 0) = false := by simp [hx]
  go_enter Tryz.func48, Tryz.ntmps48
  go_wp2
  go_region
  all_goals
    go_wp2
    go_ret
    exact ⟨rfl, by repeat (first | exact Below.refl _ _ | refine bset ?_ _ _ _ (by simp <;> omega) | refine bal ?_ _ | refine below_drew ?_)⟩
set_option maxRecDepth 100000 in
set_option maxHeartbeats 2000000 in
theorem rvp3 (S : Int) (x : Int) (hx : x ≠ 0) (hS : S ≠ 0) (w : World) :
    Calls Tryz.prog 48 #[.agg #[.int .i64 1, .int .i64 S, .int .i64 0, .int .u64 x]] w fun e w' => e = .returned (.int .i64 10) ∧ Below w.heap.size w w' := by
  have hx2 : (x == 0) = false := by simp [hx]
  go_enter Tryz.func48, Tryz.ntmps48
  go_wp2
  go_region
  all_goals
    go_wp2
    go_ret
    exact ⟨rfl, by repeat (first | exact Below.refl _ _ | refine bset ?_ _ _ _ (by simp <;> omega) | refine bal ?_ _ | refine below_drew ?_)⟩
set_option maxRecDepth 100000 in
set_option maxHeartbeats 2000000 in
theorem rvp4 (D : Int) (hD : D ≠ 0) (w : World) :
    Calls Tryz.prog 48 #[.agg #[.int .i64 1, .int .i64 0, .int .i64 D, .int .u64 0]] w fun e w' => e = .returned (.int .i64 10) ∧ Below w.heap.size w w' := by
  have hD2 : (D == 0) = false := by simp [hD]
  go_enter Tryz.func48, Tryz.ntmps48
  go_wp2
  go_region
  all_goals
    go_wp2
    go_ret
    exact ⟨rfl, by repeat (first | exact Below.refl _ _ | refine bset ?_ _ _ _ (by simp <;> omega) | refine bal ?_ _ | refine below_drew ?_)⟩
set_option maxRecDepth 100000 in
set_option maxHeartbeats 2000000 in
theorem rvp5 (S : Int) (D : Int) (hD : D ≠ 0) (hS : S ≠ 0) (w : World) :
    Calls Tryz.prog 48 #[.agg #[.int .i64 1, .int .i64 S, .int .i64 D, .int .u64 0]] w fun e w' => e = .returned (.int .i64 10) ∧ Below w.heap.size w w' := by
  have hD2 : (D == 0) = false := by simp [hD]
  go_enter Tryz.func48, Tryz.ntmps48
  go_wp2
  go_region
  all_goals
    go_wp2
    go_ret
    exact ⟨rfl, by repeat (first | exact Below.refl _ _ | refine bset ?_ _ _ _ (by simp <;> omega) | refine bal ?_ _ | refine below_drew ?_)⟩
set_option maxRecDepth 100000 in
set_option maxHeartbeats 2000000 in
theorem rvp6  (w : World) :
    Calls Tryz.prog 48 #[.agg #[.int .i64 1, .int .i64 0, .int .i64 0, .int .u64 0]] w fun e w' => e = .returned (.int .i64 0) ∧ Below w.heap.size w w' := by
  go_enter Tryz.func48, Tryz.ntmps48
  go_wp2
  go_region
  all_goals
    go_wp2
    go_ret
    exact ⟨rfl, by repeat (first | exact Below.refl _ _ | refine bset ?_ _ _ _ (by simp <;> omega) | refine bal ?_ _ | refine below_drew ?_)⟩
set_option maxRecDepth 100000 in
set_option maxHeartbeats 2000000 in
theorem rvp7 (S : Int) (hS : S ≠ 0) (w : World) :
    Calls Tryz.prog 48 #[.agg #[.int .i64 1, .int .i64 S, .int .i64 0, .int .u64 0]] w fun e w' => e = .returned (.int .i64 10) ∧ Below w.heap.size w w' := by
  go_enter Tryz.func48, Tryz.ntmps48
  go_wp2
  go_region
  all_goals
    go_wp2
    go_ret
    exact ⟨rfl, by repeat (first | exact Below.refl _ _ | refine bset ?_ _ _ _ (by simp <;> omega) | refine bal ?_ _ | refine below_drew ?_)⟩
set_option maxRecDepth 100000 in
set_option maxHeartbeats 2000000 in
theorem rvp8 (S : Int) (D : Int) (x : Int) (hD : D ≠ 0) (hx : x ≠ 0) (h1 : inW D 1 8 = true) (h2 : inW S 1 64 = true) (w : World) :
    Calls Tryz.prog 48 #[.agg #[.int .i64 2, .int .i64 S, .int .i64 D, .int .u64 x]] w fun e w' => e = .returned (.int .i64 0) ∧ Below w.heap.size w w' := by
  have W1 := fun w => wi12_any D 1 8 w
  have W2 := fun w => wi12_any S 1 64 w
  rw [h1] at W1
  rw [h2] at W2
  clear h1 h2
  have hD2 : (D == 0) = false := by simp [hD]
  have hx2 : (x == 0) = false := by simp [hx]
  go_enter Tryz.func48, Tryz.ntmps48
  go_wp2
  go_region
  all_goals
    go_wp2_with (first
    | (go_at_call 27; (with_reducible refine (W1 _).mono ?_); rintro e w' ⟨rfl, rfl⟩)
    | (go_at_call 27; (with_reducible refine (W2 _).mono ?_); rintro e w' ⟨rfl, rfl⟩))
    go_ret
    exact ⟨rfl, by repeat (first | exact Below.refl _ _ | refine bset ?_ _ _ _ (by simp <;> omega) | refine bal ?_ _ | refine below_drew ?_)⟩
set_option maxRecDepth 100000 in
set_option maxHeartbeats 2000000 in
theorem rvp9 (S : Int) (D : Int) (x : Int) (hD : D ≠ 0) (hx : x ≠ 0) (h1 : inW D 1 8 = true) (h2 : inW S 1 64 = false) (w : World) :
    Calls Tryz.prog 48 #[.agg #[.int .i64 2, .int .i64 S, .int .i64 D, .int .u64 x]] w fun e w' => e = .returned (.int .i64 5) ∧ Below w.heap.size w w' := by
  have W1 := fun w => wi12_any D 1 8 w
  have W2 := fun w => wi12_any S 1 64 w
  rw [h1] at W1
  rw [h2] at W2
  clear h1 h2
  have hD2 : (D == 0) = false := by simp [hD]
  have hx2 : (x == 0) = false := by simp [hx]
  go_enter Tryz.func48, Tryz.ntmps48
  go_wp2
  go_region
  all_goals
    go_wp2_with (first
    | (go_at_call 27; (with_reducible refine (W1 _).mono ?_); rintro e w' ⟨rfl, rfl⟩)
    | (go_at_call 27; (with_reducible refine (W2 _).mono ?_); rintro e w' ⟨rfl, rfl⟩))
    go_ret
    exact ⟨rfl, by repeat (first | exact Below.refl _ _ | refine bset ?_ _ _ _ (by simp <;> omega) | refine bal ?_ _ | refine below_drew ?_)⟩
set_option maxRecDepth 100000 in
set_option maxHeartbeats 2000000 in
theorem rvp10 (S : Int) (x : Int) (hx : x ≠ 0) (h1 : inW 0 1 8 = true) (h2 : inW S 1 64 = true) (w : World) :
    Calls Tryz.prog 48 #[.agg #[.int .i64 2, .int .i64 S, .int .i64 0, .int .u64 x]] w fun e w' => e = .returned (.int .i64 0) ∧ Below w.heap.size w w' := by
  have W1 := fun w => wi12_any 0 1 8 w
  have W2 := fun w => wi12_any S 1 64 w
  rw [h1] at W1
  rw [h2] at W2
  clear h1 h2
  have hx2 : (x == 0) = false := by simp [hx]
  go_enter Tryz.func48, Tryz.ntmps48
  go_wp2
  go_region
  all_goals
    go_wp2_with (first
    | (go_at_call 27; (with_reducible refine (W1 _).mono ?_); rintro e w' ⟨rfl, rfl⟩)
    | (go_at_call 27; (with_reducible refine (W2 _).mono ?_); rintro e w' ⟨rfl, rfl⟩))
    go_ret
    exact ⟨rfl, by repeat (first | exact Below.refl _ _ | refine bset ?_ _ _ _ (by simp <;> omega) | refine bal ?_ _ | refine below_drew ?_)⟩
set_option maxRecDepth 100000 in
set_option maxHeartbeats 2000000 in
theorem rvp11 (S : Int) (x : Int) (hx : x ≠ 0) (h1 : inW 0 1 8 = true) (h2 : inW S 1 64 = false) (w : World) :
    Calls Tryz.prog 48 #[.agg #[.int .i64 2, .int .i64 S, .int .i64 0, .int .u64 x]] w fun e w' => e = .returned (.int .i64 5) ∧ Below w.heap.size w w' := by
  have W1 := fun w => wi12_any 0 1 8 w
  have W2 := fun w => wi12_any S 1 64 w
  rw [h1] at W1
  rw [h2] at W2
  clear h1 h2
  have hx2 : (x == 0) = false := by simp [hx]
  go_enter Tryz.func48, Tryz.ntmps48
  go_wp2
  go_region
  all_goals
    go_wp2_with (first
    | (go_at_call 27; (with_reducible refine (W1 _).mono ?_); rintro e w' ⟨rfl, rfl⟩)
    | (go_at_call 27; (with_reducible refine (W2 _).mono ?_); rintro e w' ⟨rfl, rfl⟩))
    go_ret
    exact ⟨rfl, by repeat (first | exact Below.refl _ _ | refine bset ?_ _ _ _ (by simp <;> omega) | refine bal ?_ _ | refine below_drew ?_)⟩
set_option maxRecDepth 100000 in
set_option maxHeartbeats 2000000 in
theorem rvp12 (S : Int) (D : Int) (hD : D ≠ 0) (h1 : inW D 1 8 = true) (h2 : inW S 1 64 = true) (w : World) :
    Calls Tryz.prog 48 #[.agg #[.int .i64 2, .int .i64 S, .int .i64 D, .int .u64 0]] w fun e w' => e = .returned (.int .i64 0) ∧ Below w.heap.size w w' := by
  have W1 := fun w => wi12_any D 1 8 w
  have W2 := fun w => wi12_any S 1 64 w
  rw [h1] at W1
  rw [h2] at W2
  clear h1 h2
  have hD2 : (D == 0) = false := by simp [hD]
  go_enter Tryz.func48, Tryz.ntmps48
  go_wp2
  go_region
  all_goals
    go_wp2_with (first
    | (go_at_call 27; (with_reducible refine (W1 _).mono ?_); rintro e w' ⟨rfl, rfl⟩)
    | (go_at_call 27; (with_reducible refine (W2 _).mono ?_); rintro e w' ⟨rfl, rfl⟩))
    go_ret
    exact ⟨rfl, by repeat (first | exact Below.refl _ _ | refine bset ?_ _ _ _ (by simp <;> omega) | refine bal ?_ _ | refine below_drew ?_)⟩
set_option maxRecDepth 100000 in
set_option maxHeartbeats 2000000 in
theorem rvp13 (S : Int) (D : Int) (hD : D ≠ 0) (h1 : inW D 1 8 = true) (h2 : inW S 1 64 = false) (w : World) :
    Calls Tryz.prog 48 #[.agg #[.int .i64 2, .int .i64 S, .int .i64 D, .int .u64 0]] w fun e w' => e = .returned (.int .i64 5) ∧ Below w.heap.size w w' := by
  have W1 := fun w => wi12_any D 1 8 w
  have W2 := fun w => wi12_any S 1 64 w
  rw [h1] at W1
  rw [h2] at W2
  clear h1 h2
  have hD2 : (D == 0) = false := by simp [hD]
  go_enter Tryz.func48, Tryz.ntmps48
  go_wp2
  go_region
  all_goals
    go_wp2_with (first
    | (go_at_call 27; (with_reducible refine (W1 _).mono ?_); rintro e w' ⟨rfl, rfl⟩)
    | (go_at_call 27; (with_reducible refine (W2 _).mono ?_); rintro e w' ⟨rfl, rfl⟩))
    go_ret
    exact ⟨rfl, by repeat (first | exact Below.refl _ _ | refine bset ?_ _ _ _ (by simp <;> omega) | refine bal ?_ _ | refine below_drew ?_)⟩
set_option maxRecDepth 100000 in
set_option maxHeartbeats 2000000 in
theorem rvp14 (S : Int) (h1 : inW 0 1 8 = true) (h2 : inW S 1 64 = true) (w : World) :
    Calls Tryz.prog 48 #[.agg #[.int .i64 2, .int .i64 S, .int .i64 0, .int .u64 0]] w fun e w' => e = .returned (.int .i64 0) ∧ Below w.heap.size w w' := by
  have W1 := fun w => wi12_any 0 1 8 w
  have W2 := fun w => wi12_any S 1 64 w
  rw [h1] at W1
  rw [h2] at W2
  clear h1 h2
  go_enter Tryz.func48, Tryz.ntmps48
  go_wp2
  go_region
  all_goals
    go_wp2_with (first
    | (go_at_call 27; (with_reducible refine (W1 _).mono ?_); rintro e w' ⟨rfl, rfl⟩)
    | (go_at_call 27; (with_reducible refine (W2 _).mono ?_); rintro e w' ⟨rfl, rfl⟩))
    go_ret
    exact ⟨rfl, by repeat (first | exact Below.refl _ _ | refine bset ?_ _ _ _ (by simp <;> omega) | refine bal ?_ _ | refine below_drew ?_)⟩
set_option maxRecDepth 100000 in
set_option maxHeartbeats 2000000 in
theorem rvp15 (S : Int) (h1 : inW 0 1 8 = true) (h2 : inW S 1 64 = false) (w : World) :
    Calls Tryz.prog 48 #[.agg #[.int .i64 2, .int .i64 S, .int .i64 0, .int .u64 0]] w fun e w' => e = .returned (.int .i64 5) ∧ Below w.heap.size w w' := by
  have W1 := fun w => wi12_any 0 1 8 w
  have W2 := fun w => wi12_any S 1 64 w
  rw [h1] at W1
  rw [h2] at W2
  clear h1 h2
  go_enter Tryz.func48, Tryz.ntmps48
  go_wp2
  go_region
  all_goals
    go_wp2_with (first
    | (go_at_call 27; (with_reducible refine (W1 _).mono ?_); rintro e w' ⟨rfl, rfl⟩)
    | (go_at_call 27; (with_reducible refine (W2 _).mono ?_); rintro e w' ⟨rfl, rfl⟩))
    go_ret
    exact ⟨rfl, by repeat (first | exact Below.refl _ _ | refine bset ?_ _ _ _ (by simp <;> omega) | refine bal ?_ _ | refine below_drew ?_)⟩
set_option maxRecDepth 100000 in
set_option maxHeartbeats 2000000 in
theorem rvp16 (S : Int) (D : Int) (x : Int) (hD : D ≠ 0) (hx : x ≠ 0) (h1 : inW D 1 8 = false) (w : World) :
    Calls Tryz.prog 48 #[.agg #[.int .i64 2, .int .i64 S, .int .i64 D, .int .u64 x]] w fun e w' => e = .returned (.int .i64 5) ∧ Below w.heap.size w w' := by
  have W1 := fun w => wi12_any D 1 8 w
  rw [h1] at W1
  clear h1
  have hD2 : (D == 0) = false := by simp [hD]
  have hx2 : (x == 0) = false := by simp [hx]
  go_enter Tryz.func48, Tryz.ntmps48
  go_wp2
  go_region
  all_goals
    go_wp2_with (first
    | (go_at_call 27; (with_reducible refine (W1 _).mono ?_); rintro e w' ⟨rfl, rfl⟩))
    go_ret
    exact ⟨rfl, by repeat (first | exact Below.refl _ _ | refine bset ?_ _ _ _ (by simp <;> omega) | refine bal ?_ _ | refine below_drew ?_)⟩
set_option maxRecDepth 100000 in
set_option maxHeartbeats 2000000 in
theorem rvp17 (S : Int) (x : Int) (hx : x ≠ 0) (h1 : inW 0 1 8 = false) (w : World) :
    Calls Tryz.prog 48 #[.agg #[.int .i64 2, .int .i64 S, .int .i64 0, .int .u64 x]] w fun e w' => e = .returned (.int .i64 5) ∧ Below w.heap.size w w' := by
  have W1 := fun w => wi12_any 0 1 8 w
  rw [h1] at W1
  clear h1
  have hx2 : (x == 0) = false := by simp [hx]
  go_enter Tryz.func48, Tryz.ntmps48
  go_wp2
  go_region
  all_goals
    go_wp2_with (first
    | (go_at_call 27; (with_reducible refine (W1 _).mono ?_); rintro e w' ⟨rfl, rfl⟩))
    go_ret
    exact ⟨rfl, by repeat (first | exact Below.refl _ _ | refine bset ?_ _ _ _ (by simp <;> omega) | refine bal ?_ _ | refine below_drew ?_)⟩
set_option maxRecDepth 100000 in
set_option maxHeartbeats 2000000 in
theorem rvp18 (S : Int) (D : Int) (hD : D ≠ 0) (h1 : inW D 1 8 = false) (w : World) :
    Calls Tryz.prog 48 #[.agg #[.int .i64 2, .int .i64 S, .int .i64 D, .int .u64 0]] w fun e w' => e = .returned (.int .i64 5) ∧ Below w.heap.size w w' := by
  have W1 := fun w => wi12_any D 1 8 w
  rw [h1] at W1
  clear h1
  have hD2 : (D == 0) = false := by simp [hD]
  go_enter Tryz.func48, Tryz.ntmps48
  go_wp2
  go_region
  all_goals
    go_wp2_with (first
    | (go_at_call 27; (with_reducible refine (W1 _).mono ?_); rintro e w' ⟨rfl, rfl⟩))
    go_ret
    exact ⟨rfl, by repeat (first | exact Below.refl _ _ | refine bset ?_ _ _ _ (by simp <;> omega) | refine bal ?_ _ | refine below_drew ?_)⟩
set_option maxRecDepth 100000 in
set_option maxHeartbeats 2000000 in
theorem rvp19 (S : Int) (h1 : inW 0 1 8 = false) (w : World) :
    Calls Tryz.prog 48 #[.agg #[.int .i64 2, .int .i64 S, .int .i64 0, .int .u64 0]] w fun e w' => e = .returned (.int .i64 5) ∧ Below w.heap.size w w' := by
  have W1 := fun w => wi12_any 0 1 8 w
  rw [h1] at W1
  clear h1
  go_enter Tryz.func48, Tryz.ntmps48
  go_wp2
  go_region
  all_goals
    go_wp2_with (first
    | (go_at_call 27; (with_reducible refine (W1 _).mono ?_); rintro e w' ⟨rfl, rfl⟩))
    go_ret
    exact ⟨rfl, by repeat (first | exact Below.refl _ _ | refine bset ?_ _ _ _ (by simp <;> omega) | refine bal ?_ _ | refine below_drew ?_)⟩
set_option maxRecDepth 100000 in
set_option maxHeartbeats 2000000 in
theorem rvp20 (S : Int) (D : Int) (x : Int) (hD : D ≠ 0) (hx : x ≠ 0) (h1 : inW S 2 8 = true) (w : World) :
    Calls Tryz.prog 48 #[.agg #[.int .i64 3, .int .i64 S, .int .i64 D, .int .u64 x]] w fun e w' => e = .returned (.int .i64 10) ∧ Below w.heap.size w w' := by
  have W1 := fun w => wi12_any S 2 8 w
  rw [h1] at W1
  clear h1
  have hD2 : (D == 0) = false := by simp [hD]
  have hx2 : (x == 0) = false := by simp [hx]
  go_enter Tryz.func48, Tryz.ntmps48
  go_wp2
  go_region
  all_goals
    go_wp2_with (first
    | (go_at_call 27; (with_reducible refine (W1 _).mono ?_); rintro e w' ⟨rfl, rfl⟩))
    go_ret
    exact ⟨rfl, by repeat (first | exact Below.refl _ _ | refine bset ?_ _ _ _ (by simp <;> omega) | refine bal ?_ _ | refine below_drew ?_)⟩
set_option maxRecDepth 100000 in
set_option maxHeartbeats 2000000 in
theorem rvp21 (S : Int) (D : Int) (x : Int) (hD : D ≠ 0) (hx : x ≠ 0) (h1 : inW S 2 8 = false) (w : World) :
    Calls Tryz.prog 48 #[.agg #[.int .i64 3, .int .i64 S, .int .i64 D, .int .u64 x]] w fun e w' => e = .returned (.int .i64 5) ∧ Below w.heap.size w w' := by
  have W1 := fun w => wi12_any S 2 8 w
  rw [h1] at W1
  clear h1
  have hD2 : (D == 0) = false := by simp [hD]
  have hx2 : (x == 0) = false := by simp [hx]
  go_enter Tryz.func48, Tryz.ntmps48
  go_wp2
  go_region
  all_goals
    go_wp2_with (first
    | (go_at_call 27; (with_reducible refine (W1 _).mono ?_); rintro e w' ⟨rfl, rfl⟩))
    go_ret
    exact ⟨rfl, by repeat (first | exact Below.refl _ _ | refine bset ?_ _ _ _ (by simp <;> omega) | refine bal ?_ _ | refine below_drew ?_)⟩
set_option maxRecDepth 100000 in
set_option maxHeartbeats 2000000 in
theorem rvp22 (S : Int) (x : Int) (hx : x ≠ 0) (h1 : inW S 2 8 = true) (w : World) :
    Calls Tryz.prog 48 #[.agg #[.int .i64 3, .int .i64 S, .int .i64 0, .int .u64 x]] w fun e w' => e = .returned (.int .i64 0) ∧ Below w.heap.size w w' := by
  have W1 := fun w => wi12_any S 2 8 w
  rw [h1] at W1
  clear h1
  have hx2 : (x == 0) = false := by simp [hx]
  go_enter Tryz.func48, Tryz.ntmps48
  go_wp2
  go_region
  all_goals
    go_wp2_with (first
    | (go_at_call 27; (with_reducible refine (W1 _).mono ?_); rintro e w' ⟨rfl, rfl⟩))
    go_ret
    exact ⟨rfl, by repeat (first | exact Below.refl _ _ | refine bset ?_ _ _ _ (by simp <;> omega) | refine bal ?_ _ | refine below_drew ?_)⟩
set_option maxRecDepth 100000 in
set_option maxHeartbeats 2000000 in
theorem rvp23 (S : Int) (x : Int) (hx : x ≠ 0) (h1 : inW S 2 8 = false) (w : World) :
    Calls Tryz.prog 48 #[.agg #[.int .i64 3, .int .i64 S, .int .i64 0, .int .u64 x]] w fun e w' => e = .returned (.int .i64 5) ∧ Below w.heap.size w w' := by
  have W1 := fun w => wi12_any S 2 8 w
  rw [h1] at W1
  clear h1
  have hx2 : (x == 0) = false := by simp [hx]
  go_enter Tryz.func48, Tryz.ntmps48
  go_wp2
  go_region
  all_goals
    go_wp2_with (first
    | (go_at_call 27; (with_reducible refine (W1 _).mono ?_); rintro e w' ⟨rfl, rfl⟩))
    go_ret
    exact ⟨rfl, by repeat (first | exact Below.refl _ _ | refine bset ?_ _ _ _ (by simp <;> omega) | refine bal ?_ _ | refine below_drew ?_)⟩
set_option maxRecDepth 100000 in
set_option maxHeartbeats 2000000 in
theorem rvp24 (S : Int) (D : Int) (hD : D ≠ 0) (h1 : inW S 2 8 = true) (w : World) :
    Calls Tryz.prog 48 #[.agg #[.int .i64 3, .int .i64 S, .int .i64 D, .int .u64 0]] w fun e w' => e = .returned (.int .i64 10) ∧ Below w.heap.size w w' := by
  have W1 := fun w => wi12_any S 2 8 w
  rw [h1] at W1
  clear h1
  have hD2 : (D == 0) = false := by simp [hD]
  go_enter Tryz.func48, Tryz.ntmps48
  go_wp2
  go_region
  all_goals
    go_wp2_with (first
    | (go_at_call 27; (with_reducible refine (W1 _).mono ?_); rintro e w' ⟨rfl, rfl⟩))
    go_ret
    exact ⟨rfl, by repeat (first | exact Below.refl _ _ | refine bset ?_ _ _ _ (by simp <;> omega) | refine bal ?_ _ | refine below_drew ?_)⟩
set_option maxRecDepth 100000 in
set_option maxHeartbeats 2000000 in
theorem rvp25 (S : Int) (D : Int) (hD : D ≠ 0) (h1 : inW S 2 8 = false) (w : World) :
    Calls Tryz.prog 48 #[.agg #[.int .i64 3, .int .i64 S, .int .i64 D, .int .u64 0]] w fun e w' => e = .returned (.int .i64 5) ∧ Below w.heap.size w w' := by
  have W1 := fun w => wi12_any S 2 8 w
  rw [h1] at W1
  clear h1
  have hD2 : (D == 0) = false := by simp [hD]
  go_enter Tryz.func48, Tryz.ntmps48
  go_wp2
  go_region
  all_goals
    go_wp2_with (first
    | (go_at_call 27; (with_reducible refine (W1 _).mono ?_); rintro e w' ⟨rfl, rfl⟩))
    go_ret
    exact ⟨rfl, by repeat (first | exact Below.refl _ _ | refine bset ?_ _ _ _ (by simp <;> omega) | refine bal ?_ _ | refine below_drew ?_)⟩
set_option maxRecDepth 100000 in
set_option maxHeartbeats 2000000 in
theorem rvp26 (S : Int) (h1 : inW S 2 8 = true) (w : World) :
    Calls Tryz.prog 48 #[.agg #[.int .i64 3, .int .i64 S, .int .i64 0, .int .u64 0]] w fun e w' => e = .returned (.int .i64 0) ∧ Below w.heap.size w w' := by
  have W1 := fun w => wi12_any S 2 8 w
  rw [h1] at W1
  clear h1
  go_enter Tryz.func48, Tryz.ntmps48
  go_wp2
  go_region
  all_goals
    go_wp2_with (first
    | (go_at_call 27; (with_reducible refine (W1 _).mono ?_); rintro e w' ⟨rfl, rfl⟩))
    go_ret
    exact ⟨rfl, by repeat (first | exact Below.refl _ _ | refine bset ?_ _ _ _ (by simp <;> omega) | refine bal ?_ _ | refine below_drew ?_)⟩
set_option maxRecDepth 100000 in
set_option maxHeartbeats 2000000 in
theorem rvp27 (S : Int) (h1 : inW S 2 8 = false) (w : World) :
    Calls Tryz.prog 48 #[.agg #[.int .i64 3, .int .i64 S, .int .i64 0, .int .u64 0]] w fun e w' => e = .returned (.int .i64 5) ∧ Below w.heap.size w w' := by
  have W1 := fun w => wi12_any S 2 8 w
  rw [h1] at W1
  clear h1
  go_enter Tryz.func48, Tryz.ntmps48
  go_wp2
  go_region
  all_goals
    go_wp2_with (first
    | (go_at_call 27; (with_reducible refine (W1 _).mono ?_); rintro e w' ⟨rfl, rfl⟩))
    go_ret
    exact ⟨rfl, by repeat (first | exact Below.refl _ _ | refine bset ?_ _ _ _ (by simp <;> omega) | refine bal ?_ _ | refine below_drew ?_)⟩
set_option maxRecDepth 100000 in
set_option maxHeartbeats 2000000 in
theorem rvp28 (S : Int) (D : Int) (x : Int) (hD : D ≠ 0) (hx : x ≠ 0) (h1 : inW S 1 32 = true) (w : World) :
    Calls Tryz.prog 48 #[.agg #[.int .i64 4, .int .i64 S, .int .i64 D, .int .u64 x]] w fun e w' => e = .returned (.int .i64 10) ∧ Below w.heap.size w w' := by
  have W1 := fun w => wi12_any S 1 32 w
  rw [h1] at W1
  clear h1
  have hD2 : (D == 0) = false := by simp [hD]
  have hx2 : (x == 0) = false := by simp [hx]
  go_enter Tryz.func48, Tryz.ntmps48
  go_wp2
  go_region
  all_goals
    go_wp2_with (first
    | (go_at_call 27; (with_reducible refine (W1 _).mono ?_); rintro e w' ⟨rfl, rfl⟩))
    go_ret
    exact ⟨rfl, by repeat (first | exact Below.refl _ _ | refine bset ?_ _ _ _ (by simp <;> omega) | refine bal ?_ _ | refine below_drew ?_)⟩
set_option maxRecDepth 100000 in
set_option maxHeartbeats 2000000 in
theorem rvp29 (S : Int) (D : Int) (x : Int) (hD : D ≠ 0) (hx : x ≠ 0) (h1 : inW S 1 32 = false) (w : World) :
    Calls Tryz.prog 48 #[.agg #[.int .i64 4, .int .i64 S, .int .i64 D, .int .u64 x]] w fun e w' => e = .returned (.int .i64 5) ∧ Below w.heap.size w w' := by
  have W1 := fun w => wi12_any S 1 32 w
  rw [h1] at W1
  clear h1
  have hD2 : (D == 0) = false := by simp [hD]
  have hx2 : (x == 0) = false := by simp [hx]
  go_enter Tryz.func48, Tryz.ntmps48
  go_wp2
  go_region
  all_goals
    go_wp2_with (first
    | (go_at_call 27; (with_reducible refine (W1 _).mono ?_); rintro e w' ⟨rfl, rfl⟩))
    go_ret
    exact ⟨rfl, by repeat (first | exact Below.refl _ _ | refine bset ?_ _ _ _ (by simp <;> omega) | refine bal ?_ _ | refine below_drew ?_)⟩
set_option maxRecDepth 100000 in
set_option maxHeartbeats 2000000 in
theorem rvp30 (S : Int) (x : Int) (hx : x ≠ 0) (h1 : inW S 1 32 = true) (w : World) :
    Calls Tryz.prog 48 #[.agg #[.int .i64 4, .int .i64 S, .int .i64 0, .int .u64 x]] w fun e w' => e = .returned (.int .i64 10) ∧ Below w.heap.size w w' := by
  have W1 := fun w => wi12_any S 1 32 w
  rw [h1] at W1
  clear h1
  have hx2 : (x == 0) = false := by simp [hx]
  go_enter Tryz.func48, Tryz.ntmps48
  go_wp2
  go_region
  all_goals
    go_wp2_with (first
    | (go_at_call 27; (with_reducible refine (W1 _).mono ?_); rintro e w' ⟨rfl, rfl⟩))
    go_ret
    exact ⟨rfl, by repeat (first | exact Below.refl _ _ | refine bset ?_ _ _ _ (by simp <;> omega) | refine bal ?_ _ | refine below_drew ?_)⟩
set_option maxRecDepth 100000 in
set_option maxHeartbeats 2000000 in
theorem rvp31 (S : Int) (x : Int) (hx : x ≠ 0) (h1 : inW S 1 32 = false) (w : World) :
    Calls Tryz.prog 48 #[.agg #[.int .i64 4, .int .i64 S, .int .i64 0, .int .u64 x]] w fun e w' => e = .returned (.int .i64 5) ∧ Below w.heap.size w w' := by
  have W1 := fun w => wi12_any S 1 32 w
  rw [h1] at W1
  clear h1
  have hx2 : (x == 0) = false := by simp [hx]
  go_enter Tryz.func48, Tryz.ntmps48
  go_wp2
  go_region
  all_goals
    go_wp2_with (first
    | (go_at_call 27; (with_reducible refine (W1 _).mono ?_); rintro e w' ⟨rfl, rfl⟩))
    go_ret
    exact ⟨rfl, by repeat (first | exact Below.refl _ _ | refine bset ?_ _ _ _ (by simp <;> omega) | refine bal ?_ _ | refine below_drew ?_)⟩
set_option maxRecDepth 100000 in
set_option maxHeartbeats 2000000 in
theorem rvp32 (S : Int) (D : Int) (hD : D ≠ 0) (h1 : inW S 1 32 = true) (w : World) :
    Calls Tryz.prog 48 #[.agg #[.int .i64 4, .int .i64 S, .int .i64 D, .int .u64 0]] w fun e w' => e = .returned (.int .i64 10) ∧ Below w.heap.size w w' := by
  have W1 := fun w => wi12_any S 1 32 w
  rw [h1] at W1
  clear h1
  have hD2 : (D == 0) = false := by simp [hD]
  go_enter Tryz.func48, Tryz.ntmps48
  go_wp2
  go_region
  all_goals
    go_wp2_with (first
    | (go_at_call 27; (with_reducible refine (W1 _).mono ?_); rintro e w' ⟨rfl, rfl⟩))
    go_ret
    exact ⟨rfl, by repeat (first | exact Below.refl _ _ | refine bset ?_ _ _ _ (by simp <;> omega) | refine bal ?_ _ | refine below_drew ?_)⟩
set_option maxRecDepth 100000 in
set_option maxHeartbeats 2000000 in
theorem rvp33 (S : Int) (D : Int) (hD : D ≠ 0) (h1 : inW S 1 32 = false) (w : World) :
    Calls Tryz.prog 48 #[.agg #[.int .i64 4, .int .i64 S, .int .i64 D, .int .u64 0]] w fun e w' => e = .returned (.int .i64 5) ∧ Below w.heap.size w w' := by
  have W1 := fun w => wi12_any S 1 32 w
  rw [h1] at W1
  clear h1
  have hD2 : (D == 0) = false := by simp [hD]
  go_enter Tryz.func48, Tryz.ntmps48
  go_wp2
  go_region
  all_goals
    go_wp2_with (first
    | (go_at_call 27; (with_reducible refine (W1 _).mono ?_); rintro e w' ⟨rfl, rfl⟩))
    go_ret
    exact ⟨rfl, by repeat (first | exact Below.refl _ _ | refine bset ?_ _ _ _ (by simp <;> omega) | refine bal ?_ _ | refine below_drew ?_)⟩
set_option maxRecDepth 100000 in
set_option maxHeartbeats 2000000 in
theorem rvp34 (S : Int) (h1 : inW S 1 32 = true) (w : World) :
    Calls Tryz.prog 48 #[.agg #[.int .i64 4, .int .i64 S, .int .i64 0, .int .u64 0]] w fun e w' => e = .returned (.int .i64 0) ∧ Below w.heap.size w w' := by
  have W1 := fun w => wi12_any S 1 32 w
  rw [h1] at W1
  clear h1
  go_enter Tryz.func48, Tryz.ntmps48
  go_wp2
  go_region
  all_goals
    go_wp2_with (first
    | (go_at_call 27; (with_reducible refine (W1 _).mono ?_); rintro e w' ⟨rfl, rfl⟩))
    go_ret
    exact ⟨rfl, by repeat (first | exact Below.refl _ _ | refine bset ?_ _ _ _ (by simp <;> omega) | refine bal ?_ _ | refine below_drew ?_)⟩
set_option maxRecDepth 100000 in
set_option maxHeartbeats 2000000 in
theorem rvp35 (S : Int) (h1 : inW S 1 32 = false) (w : World) :
    Calls Tryz.prog 48 #[.agg #[.int .i64 4, .int .i64 S, .int .i64 0, .int .u64 0]] w fun e w' => e = .returned (.int .i64 5) ∧ Below w.heap.size w w' := by
  have W1 := fun w => wi12_any S 1 32 w
  rw [h1] at W1
  clear h1
  go_enter Tryz.func48, Tryz.ntmps48
  go_wp2
  go_region
  all_goals
    go_wp2_with (first
    | (go_at_call 27; (with_reducible refine (W1 _).mono ?_); rintro e w' ⟨rfl, rfl⟩))
    go_ret
    exact ⟨rfl, by repeat (first | exact Below.refl _ _ | refine bset ?_ _ _ _ (by simp <;> omega) | refine bal ?_ _ | refine below_drew ?_)⟩
set_option maxRecDepth 100000 in
set_option maxHeartbeats 2000000 in
theorem rvp36 (S : Int) (D : Int) (x : Int) (hD : D ≠ 0) (hx : x ≠ 0) (h1 : inW S 1 32 = true) (w : World) :
    Calls Tryz.prog 48 #[.agg #[.int .i64 5, .int .i64 S, .int .i64 D, .int .u64 x]] w fun e w' => e = .returned (.int .i64 10) ∧ Below w.heap.size w w' := by
  have W1 := fun w => wi12_any S 1 32 w
  rw [h1] at W1
  clear h1
  have hD2 : (D == 0) = false := by simp [hD]
  have hx2 : (x == 0) = false := by simp [hx]
  go_enter Tryz.func48, Tryz.ntmps48
  go_wp2
  go_region
  all_goals
    go_wp2_with (first
    | (go_at_call 27; (with_reducible refine (W1 _).mono ?_); rintro e w' ⟨rfl, rfl⟩))
    go_ret
    exact ⟨rfl, by repeat (first | exact Below.refl _ _ | refine bset ?_ _ _ _ (by simp <;> omega) | refine bal ?_ _ | refine below_drew ?_)⟩
set_option maxRecDepth 100000 in
set_option maxHeartbeats 2000000 in
theorem rvp37 (S : Int) (D : Int) (x : Int) (hD : D ≠ 0) (hx : x ≠ 0) (h1 : inW S 1 32 = false) (w : World) :
    Calls Tryz.prog 48 #[.agg #[.int .i64 5, .int .i64 S, .int .i64 D, .int .u64 x]] w fun e w' => e = .returned (.int .i64 5) ∧ Below w.heap.size w w' := by
  have W1 := fun w => wi12_any S 1 32 w
  rw [h1] at W1
  clear h1
  have hD2 : (D == 0) = false := by simp [hD]
  have hx2 : (x == 0) = false := by simp [hx]
  go_enter Tryz.func48, Tryz.ntmps48
  go_wp2
  go_region
  all_goals
    go_wp2_with (first
    | (go_at_call 27; (with_reducible refine (W1 _).mono ?_); rintro e w' ⟨rfl, rfl⟩))
    go_ret
    exact ⟨rfl, by repeat (first | exact Below.refl _ _ | refine bset ?_ _ _ _ (by simp <;> omega) | refine bal ?_ _ | refine below_drew ?_)⟩
set_option maxRecDepth 100000 in
set_option maxHeartbeats 2000000 in
theorem rvp38 (S : Int) (x : Int) (hx : x ≠ 0) (h1 : inW S 1 32 = true) (w : World) :
    Calls Tryz.prog 48 #[.agg #[.int .i64 5, .int .i64 S, .int .i64 0, .int .u64 x]] w fun e w' => e = .returned (.int .i64 10) ∧ Below w.heap.size w w' := by
  have W1 := fun w => wi12_any S 1 32 w
  rw [h1] at W1
  clear h1
  have hx2 : (x == 0) = false := by simp [hx]
  go_enter Tryz.func48, Tryz.ntmps48
  go_wp2
  go_region
  all_goals
    go_wp2_with (first
    | (go_at_call 27; (with_reducible refine (W1 _).mono ?_); rintro e w' ⟨rfl, rfl⟩))
    go_ret
    exact ⟨rfl, by repeat (first | exact Below.refl _ _ | refine bset ?_ _ _ _ (by simp <;> omega) | refine bal ?_ _ | refine below_drew ?_)⟩
set_option maxRecDepth 100000 in
set_option maxHeartbeats 2000000 in
theorem rvp39 (S : Int) (x : Int) (hx : x ≠ 0) (h1 : inW S 1 32 = false) (w : World) :
    Calls Tryz.prog 48 #[.agg #[.int .i64 5, .int .i64 S, .int .i64 0, .int .u64 x]] w fun e w' => e = .returned (.int .i64 5) ∧ Below w.heap.size w w' := by
  have W1 := fun w => wi12_any S 1 32 w
  rw [h1] at W1
  clear h1
  have hx2 : (x == 0) = false := by simp [hx]
  go_enter Tryz.func48, Tryz.ntmps48
  go_wp2
  go_region
  all_goals
    go_wp2_with (first
    | (go_at_call 27; (with_reducible refine (W1 _).mono ?_); rintro e w' ⟨rfl, rfl⟩))
    go_ret
    exact ⟨rfl, by repeat (first | exact Below.refl _ _ | refine bset ?_ _ _ _ (by simp <;> omega) | refine bal ?_ _ | refine below_drew ?_)⟩
set_option maxRecDepth 100000 in
set_option maxHeartbeats 2000000 in
theorem rvp40 (S : Int) (D : Int) (hD : D ≠ 0) (h1 : inW S 1 32 = true) (w : World) :
    Calls Tryz.prog 48 #[.agg #[.int .i64 5, .int .i64 S, .int .i64 D, .int .u64 0]] w fun e w' => e = .returned (.int .i64 10) ∧ Below w.heap.size w w' := by
  have W1 := fun w => wi12_any S 1 32 w
  rw [h1] at W1
  clear h1
  have hD2 : (D == 0) = false := by simp [hD]
  go_enter Tryz.func48, Tryz.ntmps48
  go_wp2
  go_region
  all_goals
    go_wp2_with (first
    | (go_at_call 27; (with_reducible refine (W1 _).mono ?_); rintro e w' ⟨rfl, rfl⟩))
    go_ret
    exact ⟨rfl, by repeat (first | exact Below.refl _ _ | refine bset ?_ _ _ _ (by simp <;> omega) | refine bal ?_ _ | refine below_drew ?_)⟩
set_option maxRecDepth 100000 in
set_option maxHeartbeats 2000000 in
theorem rvp41 (S : Int) (D : Int) (hD : D ≠ 0) (h1 : inW S 1 32 = false) (w : World) :
    Calls Tryz.prog 48 #[.agg #[.int .i64 5, .int .i64 S, .int .i64 D, .int .u64 0]] w fun e w' => e = .returned (.int .i64 5) ∧ Below w.heap.size w w' := by
  have W1 := fun w => wi12_any S 1 32 w
  rw [h1] at W1
  clear h1
  have hD2 : (D == 0) = false := by simp [hD]
  go_enter Tryz.func48, Tryz.ntmps48
  go_wp2
  go_region
  all_goals
    go_wp2_with (first
    | (go_at_call 27; (with_reducible refine (W1 _).mono ?_); rintro e w' ⟨rfl, rfl⟩))
    go_ret
    exact ⟨rfl, by repeat (first | exact Below.refl _ _ | refine bset ?_ _ _ _ (by simp <;> omega) | refine bal ?_ _ | refine below_drew ?_)⟩
set_option maxRecDepth 100000 in
set_option maxHeartbeats 2000000 in
theorem rvp42 (S : Int) (h1 : inW S 1 32 = true) (w : World) :
    Calls Tryz.prog 48 #[.agg #[.int .i64 5, .int .i64 S, .int .i64 0, .int .u64 0]] w fun e w' => e = .returned (.int .i64 0) ∧ Below w.heap.size w w' := by
  have W1 := fun w => wi12_any S 1 32 w
  rw [h1] at W1
  clear h1
  go_enter Tryz.func48, Tryz.ntmps48
  go_wp2
  go_region
  all_goals
    go_wp2_with (first
    | (go_at_call 27; (with_reducible refine (W1 _).mono ?_); rintro e w' ⟨rfl, rfl⟩))
    go_ret
    exact ⟨rfl, by repeat (first | exact Below.refl _ _ | refine bset ?_ _ _ _ (by simp <;> omega) | refine bal ?_ _ | refine below_drew ?_)⟩
set_option maxRecDepth 100000 in
set_option maxHeartbeats 2000000 in
theorem rvp43 (S : Int) (h1 : inW S 1 32 = false) (w : World) :
    Calls Tryz.prog 48 #[.agg #[.int .i64 5, .int .i64 S, .int .i64 0, .int .u64 0]] w fun e w' => e = .returned (.int .i64 5) ∧ Below w.heap.size w w' := by
  have W1 := fun w => wi12_any S 1 32 w
  rw [h1] at W1
  clear h1
  go_enter Tryz.func48, Tryz.ntmps48
  go_wp2
  go_region
  all_goals
    go_wp2_with (first
    | (go_at_call 27; (with_reducible refine (W1 _).mono ?_); rintro e w' ⟨rfl, rfl⟩))
    go_ret
    exact ⟨rfl, by repeat (first | exact Below.refl _ _ | refine bset ?_ _ _ _ (by simp <;> omega) | refine bal ?_ _ | refine below_drew ?_)⟩
set_option maxRecDepth 100000 in
set_option maxHeartbeats 2000000 in
theorem rvp44 (S : Int) (D : Int) (x : Int) (hD : D ≠ 0) (hx : x ≠ 0) (h1 : inW S 2 32 = true) (h2 : S.tmod 2 = 0) (w : World) :
    Calls Tryz.prog 48 #[.agg #[.int .i64 6, .int .i64 S, .int .i64 D, .int .u64 x]] w fun e w' => e = .returned (.int .i64 10) ∧ Below w.heap.size w w' := by
  have W1 := fun w => wi12_any S 2 32 w
  rw [h1] at W1
  have hS0 : -9223372036854775808 ≤ S ∧ S ≤ 9223372036854775807 := by unfold inW at h1; simp at h1; omega
  clear h1
  have hD2 : (D == 0) = false := by simp [hD]
  have hx2 : (x == 0) = false := by simp [hx]
  go_enter Tryz.func48, Tryz.ntmps48
  go_wp2
  go_region
  all_goals
    go_wp2_with (first
    | (go_at_call 27; (with_reducible refine (W1 _).mono ?_); rintro e w' ⟨rfl, rfl⟩))
    go_ret
    exact ⟨rfl, by repeat (first | exact Below.refl _ _ | refine bset ?_ _ _ _ (by simp <;> omega) | refine bal ?_ _ | refine below_drew ?_)⟩
set_option maxRecDepth 100000 in
set_option maxHeartbeats 2000000 in
theorem rvp45 (S : Int) (D : Int) (x : Int) (hD : D ≠ 0) (hx : x ≠ 0) (h1 : inW S 2 32 = false) (w : World) :
    Calls Tryz.prog 48 #[.agg #[.int .i64 6, .int .i64 S, .int .i64 D, .int .u64 x]] w fun e w' => e = .returned (.int .i64 5) ∧ Below w.heap.size w w' := by
  have W1 := fun w => wi12_any S 2 32 w
  rw [h1] at W1
  clear h1
  have hD2 : (D == 0) = false := by simp [hD]
  have hx2 : (x == 0) = false := by simp [hx]
  go_enter Tryz.func48, Tryz.ntmps48
  go_wp2
  go_region
  all_goals
    go_wp2_with (first
    | (go_at_call 27; (with_reducible refine (W1 _).mono ?_); rintro e w' ⟨rfl, rfl⟩))
    go_ret
    exact ⟨rfl, by repeat (first | exact Below.refl _ _ | refine bset ?_ _ _ _ (by simp <;> omega) | refine bal ?_ _ | refine below_drew ?_)⟩
set_option maxRecDepth 100000 in
set_option maxHeartbeats 2000000 in
theorem rvp46 (S : Int) (x : Int) (hx : x ≠ 0) (h1 : inW S 2 32 = true) (h2 : S.tmod 2 = 0) (w : World) :
    Calls Tryz.prog 48 #[.agg #[.int .i64 6, .int .i64 S, .int .i64 0, .int .u64 x]] w fun e w' => e = .returned (.int .i64 10) ∧ Below w.heap.size w w' := by
  have W1 := fun w => wi12_any S 2 32 w
  rw [h1] at W1
  have hS0 : -9223372036854775808 ≤ S ∧ S ≤ 9223372036854775807 := by unfold inW at h1; simp at h1; omega
  clear h1
  have hx2 : (x == 0) = false := by simp [hx]
  go_enter Tryz.func48, Tryz.ntmps48
  go_wp2
  go_region
  all_goals
    go_wp2_with (first
    | (go_at_call 27; (with_reducible refine (W1 _).mono ?_); rintro e w' ⟨rfl, rfl⟩))
    go_ret
    exact ⟨rfl, by repeat (first | exact Below.refl _ _ | refine bset ?_ _ _ _ (by simp <;> omega) | refine bal ?_ _ | refine below_drew ?_)⟩
set_option maxRecDepth 100000 in
set_option maxHeartbeats 2000000 in
theorem rvp47 (S : Int) (x : Int) (hx : x ≠ 0) (h1 : inW S 2 32 = false) (w : World) :
    Calls Tryz.prog 48 #[.agg #[.int .i64 6, .int .i64 S, .int .i64 0, .int .u64 x]] w fun e w' => e = .returned (.int .i64 5) ∧ Below w.heap.size w w' := by
  have W1 := fun w => wi12_any S 2 32 w
  rw [h1] at W1
  clear h1
  have hx2 : (x == 0) = false := by simp [hx]
  go_enter Tryz.func48, Tryz.ntmps48
  go_wp2
  go_region
  all_goals
    go_wp2_with (first
    | (go_at_call 27; (with_reducible refine (W1 _).mono ?_); rintro e w' ⟨rfl, rfl⟩))
    go_ret
    exact ⟨rfl, by repeat (first | exact Below.refl _ _ | refine bset ?_ _ _ _ (by simp <;> omega) | refine bal ?_ _ | refine below_drew ?_)⟩
set_option maxRecDepth 100000 in
set_option maxHeartbeats 2000000 in
theorem rvp48 (S : Int) (D : Int) (hD : D ≠ 0) (h1 : inW S 2 32 = true) (h2 : S.tmod 2 = 0) (w : World) :
    Calls Tryz.prog 48 #[.agg #[.int .i64 6, .int .i64 S, .int .i64 D, .int .u64 0]] w fun e w' => e = .returned (.int .i64 10) ∧ Below w.heap.size w w' := by
  have W1 := fun w => wi12_any S 2 32 w
  rw [h1] at W1
  have hS0 : -9223372036854775808 ≤ S ∧ S ≤ 9223372036854775807 := by unfold inW at h1; simp at h1; omega
  clear h1
  have hD2 : (D == 0) = false := by simp [hD]
  go_enter Tryz.func48, Tryz.ntmps48
  go_wp2
  go_region
  all_goals
    go_wp2_with (first
    | (go_at_call 27; (with_reducible refine (W1 _).mono ?_); rintro e w' ⟨rfl, rfl⟩))
    go_ret
    exact ⟨rfl, by repeat (first | exact Below.refl _ _ | refine bset ?_ _ _ _ (by simp <;> omega) | refine bal ?_ _ | refine below_drew ?_)⟩
set_option maxRecDepth 100000 in
set_option maxHeartbeats 2000000 in
theorem rvp49 (S : Int) (D : Int) (hD : D ≠ 0) (h1 : inW S 2 32 = false) (w : World) :
    Calls Tryz.prog 48 #[.agg #[.int .i64 6, .int .i64 S, .int .i64 D, .int .u64 0]] w fun e w' => e = .returned (.int .i64 5) ∧ Below w.heap.size w w' := by
  have W1 := fun w => wi12_any S 2 32 w
  rw [h1] at W1
  clear h1
  have hD2 : (D == 0) = false := by simp [hD]
  go_enter Tryz.func48, Tryz.ntmps48
  go_wp2
  go_region
  all_goals
    go_wp2_with (first
    | (go_at_call 27; (with_reducible refine (W1 _).mono ?_); rintro e w' ⟨rfl, rfl⟩))
    go_ret
    exact ⟨rfl, by repeat (first | exact Below.refl _ _ | refine bset ?_ _ _ _ (by simp <;> omega) | refine bal ?_ _ | refine below_drew ?_)⟩
set_option maxRecDepth 100000 in
set_option maxHeartbeats 2000000 in
theorem rvp50 (S : Int) (h1 : inW S 2 32 = true) (h2 : S.tmod 2 = 0) (w : World) :
    Calls Tryz.prog 48 #[.agg #[.int .i64 6, .int .i64 S, .int .i64 0, .int .u64 0]] w fun e w' => e = .returned (.int .i64 0) ∧ Below w.heap.size w w' := by
  have W1 := fun w => wi12_any S 2 32 w
  rw [h1] at W1
  have hS0 : -9223372036854775808 ≤ S ∧ S ≤ 9223372036854775807 := by unfold inW at h1; simp at h1; omega
  clear h1
  go_enter Tryz.func48, Tryz.ntmps48
  go_wp2
  go_region
  all_goals
    go_wp2_with (first
    | (go_at_call 27; (with_reducible refine (W1 _).mono ?_); rintro e w' ⟨rfl, rfl⟩))
    go_ret
    exact ⟨rfl, by repeat (first | exact Below.refl _ _ | refine bset ?_ _ _ _ (by simp <;> omega) | refine bal ?_ _ | refine below_drew ?_)⟩
set_option maxRecDepth 100000 in
set_option maxHeartbeats 2000000 in
theorem rvp51 (S : Int) (h1 : inW S 2 32 = false) (w : World) :
    Calls Tryz.prog 48 #[.agg #[.int .i64 6, .int .i64 S, .int .i64 0, .int .u64 0]] w fun e w' => e = .returned (.int .i64 5) ∧ Below w.heap.size w w' := by
  have W1 := fun w => wi12_any S 2 32 w
  rw [h1] at W1
  clear h1
  go_enter Tryz.func48, Tryz.ntmps48
  go_wp2
  go_region
  all_goals
    go_wp2_with (first
    | (go_at_call 27; (with_reducible refine (W1 _).mono ?_); rintro e w' ⟨rfl, rfl⟩))
    go_ret
    exact ⟨rfl, by repeat (first | exact Below.refl _ _ | refine bset ?_ _ _ _ (by simp <;> omega) | refine bal ?_ _ | refine below_drew ?_)⟩
set_option maxRecDepth 100000 in
set_option maxHeartbeats 2000000 in
theorem rvp52 (S : Int) (D : Int) (x : Int) (hD : D ≠ 0) (hx : x ≠ 0) (h1 : inW S 2 32 = true) (h2 : S.tmod 2 ≠ 0) (w : World) :
    Calls Tryz.prog 48 #[.agg #[.int .i64 6, .int .i64 S, .int .i64 D, .int .u64 x]] w fun e w' => e = .returned (.int .i64 5) ∧ Below w.heap.size w w' := by
  have W1 := fun w => wi12_any S 2 32 w
  rw [h1] at W1
  have hS0 : -9223372036854775808 ≤ S ∧ S ≤ 9223372036854775807 := by unfold inW at h1; simp at h1; omega
  clear h1
  have h3 : (S.tmod 2 == 0) = false := by simp [h2]
  have hD2 : (D == 0) = false := by simp [hD]
  have hx2 : (x == 0) = false := by simp [hx]
  go_enter Tryz.func48, Tryz.ntmps48
  go_wp2
  go_region
  all_goals
    go_wp2_with (first
    | (go_at_call 27; (with_reducible refine (W1 _).mono ?_); rintro e w' ⟨rfl, rfl⟩))
    go_ret
    exact ⟨rfl, by repeat (first | exact Below.refl _ _ | refine bset ?_ _ _ _ (by simp <;> omega) | refine bal ?_ _ | refine below_drew ?_)⟩
set_option maxRecDepth 100000 in
set_option maxHeartbeats 2000000 in
theorem rvp53 (S : Int) (x : Int) (hx : x ≠ 0) (h1 : inW S 2 32 = true) (h2 : S.tmod 2 ≠ 0) (w : World) :
    Calls Tryz.prog 48 #[.agg #[.int .i64 6, .int .i64 S, .int .i64 0, .int .u64 x]] w fun e w' => e = .returned (.int .i64 5) ∧ Below w.heap.size w w' := by
  have W1 := fun w => wi12_any S 2 32 w
  rw [h1] at W1
  have hS0 : -9223372036854775808 ≤ S ∧ S ≤ 9223372036854775807 := by unfold inW at h1; simp at h1; omega
  clear h1
  have h3 : (S.tmod 2 == 0) = false := by simp [h2]
  have hx2 : (x == 0) = false := by simp [hx]
  go_enter Tryz.func48, Tryz.ntmps48
  go_wp2
  go_region
  all_goals
    go_wp2_with (first
    | (go_at_call 27; (with_reducible refine (W1 _).mono ?_); rintro e w' ⟨rfl, rfl⟩))
    go_ret
    exact ⟨rfl, by repeat (first | exact Below.refl _ _ | refine bset ?_ _ _ _ (by simp <;> omega) | refine bal ?_ _ | refine below_drew ?_)⟩
set_option maxRecDepth 100000 in
set_option maxHeartbeats 2000000 in
theorem rvp54 (S : Int) (D : Int) (hD : D ≠ 0) (h1 : inW S 2 32 = true) (h2 : S.tmod 2 ≠ 0) (w : World) :
    Calls Tryz.prog 48 #[.agg #[.int .i64 6, .int .i64 S, .int .i64 D, .int .u64 0]] w fun e w' => e = .returned (.int .i64 5) ∧ Below w.heap.size w w' := by
  have W1 := fun w => wi12_any S 2 32 w
  rw [h1] at W1
  have hS0 : -9223372036854775808 ≤ S ∧ S ≤ 9223372036854775807 := by unfold inW at h1; simp at h1; omega
  clear h1
  have h3 : (S.tmod 2 == 0) = false := by simp [h2]
  have hD2 : (D == 0) = false := by simp [hD]
  go_enter Tryz.func48, Tryz.ntmps48
  go_wp2
  go_region
  all_goals
    go_wp2_with (first
    | (go_at_call 27; (with_reducible refine (W1 _).mono ?_); rintro e w' ⟨rfl, rfl⟩))
    go_ret
    exact ⟨rfl, by repeat (first | exact Below.refl _ _ | refine bset ?_ _ _ _ (by simp <;> omega) | refine bal ?_ _ | refine below_drew ?_)⟩
set_option maxRecDepth 100000 in
set_option maxHeartbeats 2000000 in
theorem rvp55 (S : Int) (h1 : inW S 2 32 = true) (h2 : S.tmod 2 ≠ 0) (w : World) :
    Calls Tryz.prog 48 #[.agg #[.int .i64 6, .int .i64 S, .int .i64 0, .int .u64 0]] w fun e w' => e = .returned (.int .i64 5) ∧ Below w.heap.size w w' := by
  have W1 := fun w => wi12_any S 2 32 w
  rw [h1] at W1
  have hS0 : -9223372036854775808 ≤ S ∧ S ≤ 9223372036854775807 := by unfold inW at h1; simp at h1; omega
  clear h1
  have h3 : (S.tmod 2 == 0) = false := by simp [h2]
  go_enter Tryz.func48, Tryz.ntmps48
  go_wp2
  go_region
  all_goals
    go_wp2_with (first
    | (go_at_call 27; (with_reducible refine (W1 _).mono ?_); rintro e w' ⟨rfl, rfl⟩))
    go_ret
    exact ⟨rfl, by repeat (first | exact Below.refl _ _ | refine bset ?_ _ _ _ (by simp <;> omega) | refine bal ?_ _ | refine below_drew ?_)⟩
set_option maxRecDepth 100000 in
set_option maxHeartbeats 2000000 in
theorem rvp56 (k : Int) (S : Int) (D : Int) (x : Int) (hD : D ≠ 0) (hx : x ≠ 0) (h1 : k ≠ 1) (h2 : k ≠ 2) (h3 : k ≠ 3) (h4 : k ≠ 4) (h5 : k ≠ 5) (h6 : k ≠ 6) (w : World) :
    Calls Tryz.prog 48 #[.agg #[.int .i64 k, .int .i64 S, .int .i64 D, .int .u64 x]] w fun e w' => e = .returned (.int .i64 8) ∧ Below w.heap.size w w' := by
  have hD2 : (D == 0) = false := by simp [hD]
  have hx2 : (x == 0) = false := by simp [hx]
  go_enter Tryz.func48, Tryz.ntmps48
  go_wp2
  go_region
  all_goals
    go_wp2
    go_ret
    exact ⟨rfl, by repeat (first | exact Below.refl _ _ | refine bset ?_ _ _ _ (by simp <;> omega) | refine bal ?_ _ | refine below_drew ?_)⟩
set_option maxRecDepth 100000 in
set_option maxHeartbeats 2000000 in
theorem rvp58 (k : Int) (S : Int) (x : Int) (hx : x ≠ 0) (h1 : k ≠ 1) (h2 : k ≠ 2) (h3 : k ≠ 3) (h4 : k ≠ 4) (h5 : k ≠ 5) (h6 : k ≠ 6) (w : World) :
    Calls Tryz.prog 48 #[.agg #[.int .i64 k, .int .i64 S, .int .i64 0, .int .u64 x]] w fun e w' => e = .returned (.int .i64 8) ∧ Below w.heap.size w w' := by
  have hx2 : (x == 0) = false := by simp [hx]
  go_enter Tryz.func48, Tryz.ntmps48
  go_wp2
  go_region
  all_goals
    go_wp2
    go_ret
    exact ⟨rfl, by repeat (first | exact Below.refl _ _ | refine bset ?_ _ _ _ (by simp <;> omega) | refine bal ?_ _ | refine below_drew ?_)⟩
set_option maxRecDepth 100000 in
set_option maxHeartbeats 2000000 in
theorem rvp60 (k : Int) (S : Int) (D : Int) (hD : D ≠ 0) (h1 : k ≠ 1) (h2 : k ≠ 2) (h3 : k ≠ 3) (h4 : k ≠ 4) (h5 : k ≠ 5) (h6 : k ≠ 6) (w : World) :
    Calls Tryz.prog 48 #[.agg #[.int .i64 k, .int .i64 S, .int .i64 D, .int .u64 0]] w fun e w' => e = .returned (.int .i64 8) ∧ Below w.heap.size w w' := by
  have hD2 : (D == 0) = false := by simp [hD]
  go_enter Tryz.func48, Tryz.ntmps48
  go_wp2
  go_region
  all_goals
    go_wp2
    go_ret
    exact ⟨rfl, by repeat (first | exact Below.refl _ _ | refine bset ?_ _ _ _ (by simp <;> omega) | refine bal ?_ _ | refine below_drew ?_)⟩
set_option maxRecDepth 100000 in
set_option maxHeartbeats 2000000 in
theorem rvp62 (k : Int) (S : Int) (h1 : k ≠ 1) (h2 : k ≠ 2) (h3 : k ≠ 3) (h4 : k ≠ 4) (h5 : k ≠ 5) (h6 : k ≠ 6) (w : World) :
    Calls Tryz.prog 48 #[.agg #[.int .i64 k, .int .i64 S, .int .i64 0, .int .u64 0]] w fun e w' => e = .returned (.int .i64 8) ∧ Below w.heap.size w w' := by
  go_enter Tryz.func48, Tryz.ntmps48
  go_wp2
  go_region
  all_goals
    go_wp2
    go_ret
    exact ⟨rfl, by repeat (first | exact Below.refl _ _ | refine bset ?_ _ _ _ (by simp <;> omega) | refine bal ?_ _ | refine below_drew ?_)⟩
theorem inW_true {n l h : Int} (hh : inW n l h = true) : l ≤ n ∧ n ≤ h := by unfold inW at hh; simpa using hh
theorem inW_false {n l h : Int} (hh : inW n l h = false) : n < l ∨ h < n := by unfold inW at hh; simp at hh; omega
theorem rvp_any (k S D x : Int) (w : World) (hS : I64 S) :
    Calls Tryz.prog 48 #[.agg #[.int .i64 k, .int .i64 S, .int .i64 D, .int .u64 x]] w fun e w' => e = .returned (.int .i64 (prmE k S D x)) ∧ Below w.heap.size w w' := by
  unfold prmE
  rcases kind_cases k with rfl | rfl | rfl | rfl | rfl | rfl | ⟨h1, h2, h3, h4, h5, h6⟩
  · simp only [if_true, if_false, or_true, true_or, or_false, false_or, show ((1 : Int) = 2) = False from by simp, show ((1 : Int) = 3) = False from by simp, show ((1 : Int) = 4) = False from by simp, show ((1 : Int) = 5) = False from by simp, show ((1 : Int) = 6) = False from by simp]
    by_cases hD : D = 0
    · subst hD
      by_cases hx : x = 0
      · subst hx
        by_cases hS0 : S = 0
        · subst hS0
          have := rvp6   w
          simpa using this
        · have := rvp7 S   hS0 w
          simpa [hS0] using this
      · by_cases hS0 : S = 0
        · subst hS0
          have := rvp2 x hx w
          simpa [hx] using this
        · have := rvp3 S x hx hS0 w
          simpa [hS0] using this
    · by_cases hx : x = 0
      · subst hx
        by_cases hS0 : S = 0
        · subst hS0
          have := rvp4 D hD w
          simpa [hD] using this
        · have := rvp5 S D hD hS0 w
          simpa [hS0] using this
      · by_cases hS0 : S = 0
        · subst hS0
          have := rvp0 D x hD hx w
          simpa [hD, hx] using this
        · have := rvp1 S D x hD hx hS0 w
          simpa [hS0] using this
  · simp only [if_true, if_false, or_true, true_or, or_false, false_or, show ((2 : Int) = 1) = False from by simp, show ((2 : Int) = 3) = False from by simp, show ((2 : Int) = 4) = False from by simp, show ((2 : Int) = 5) = False from by simp, show ((2 : Int) = 6) = False from by simp]
    by_cases hD : D = 0
    · subst hD
      by_cases hx : x = 0
      · subst hx
        rcases Bool.eq_false_or_eq_true (inW 0 1 8) with hd | hd
        · rcases Bool.eq_false_or_eq_true (inW S 1 64) with hs | hs
          · have := rvp14 S   hd hs w
            have HS : newE 0 S = 0 := by unfold newE shpB; have q1 := inW_true hd; have q2 := inW_true hs; rw [if_pos]; simp <;> omega
            rw [HS]; exact this
          · have := rvp15 S   hd hs w
            have HS : newE 0 S = 5 := by unfold newE shpB; have q1 := inW_true hd; have q2 := inW_false hs; rw [if_neg]; simp <;> omega
            rw [HS]; exact this
        · have := rvp19 S   hd w
          have HS : newE 0 S = 5 := by unfold newE shpB; have q1 := inW_false hd; rw [if_neg]; simp <;> omega
          rw [HS]; exact this
      · rcases Bool.eq_false_or_eq_true (inW 0 1 8) with hd | hd
        · rcases Bool.eq_false_or_eq_true (inW S 1 64) with hs | hs
          · have := rvp10 S x hx hd hs w
            have HS : newE 0 S = 0 := by unfold newE shpB; have q1 := inW_true hd; have q2 := inW_true hs; rw [if_pos]; simp <;> omega
            rw [HS]; exact this
          · have := rvp11 S x hx hd hs w
            have HS : newE 0 S = 5 := by unfold newE shpB; have q1 := inW_true hd; have q2 := inW_false hs; rw [if_neg]; simp <;> omega
            rw [HS]; exact this
        · have := rvp17 S x hx hd w
          have HS : newE 0 S = 5 := by unfold newE shpB; have q1 := inW_false hd; rw [if_neg]; simp <;> omega
          rw [HS]; exact this
    · by_cases hx : x = 0
      · subst hx
        rcases Bool.eq_false_or_eq_true (inW D 1 8) with hd | hd
        · rcases Bool.eq_false_or_eq_true (inW S 1 64) with hs | hs
          · have := rvp12 S D hD hd hs w
            have HS : newE D S = 0 := by unfold newE shpB; have q1 := inW_true hd; have q2 := inW_true hs; rw [if_pos]; simp <;> omega
            rw [HS]; exact this
          · have := rvp13 S D hD hd hs w
            have HS : newE D S = 5 := by unfold newE shpB; have q1 := inW_true hd; have q2 := inW_false hs; rw [if_neg]; simp <;> omega
            rw [HS]; exact this
        · have := rvp18 S D hD hd w
          have HS : newE D S = 5 := by unfold newE shpB; have q1 := inW_false hd; rw [if_neg]; simp <;> omega
          rw [HS]; exact this
      · rcases Bool.eq_false_or_eq_true (inW D 1 8) with hd | hd
        · rcases Bool.eq_false_or_eq_true (inW S 1 64) with hs | hs
          · have := rvp8 S D x hD hx hd hs w
            have HS : newE D S = 0 := by unfold newE shpB; have q1 := inW_true hd; have q2 := inW_true hs; rw [if_pos]; simp <;> omega
            rw [HS]; exact this
          · have := rvp9 S D x hD hx hd hs w
            have HS : newE D S = 5 := by unfold newE shpB; have q1 := inW_true hd; have q2 := inW_false hs; rw [if_neg]; simp <;> omega
            rw [HS]; exact this
        · have := rvp16 S D x hD hx hd w
          have HS : newE D S = 5 := by unfold newE shpB; have q1 := inW_false hd; rw [if_neg]; simp <;> omega
          rw [HS]; exact this
  · simp only [if_true, if_false, or_true, true_or, or_false, false_or, show ((3 : Int) = 1) = False from by simp, show ((3 : Int) = 2) = False from by simp, show ((3 : Int) = 4) = False from by simp, show ((3 : Int) = 5) = False from by simp, show ((3 : Int) = 6) = False from by simp]
    by_cases hD : D = 0
    · subst hD
      by_cases hx : x = 0
      · subst hx
        rcases Bool.eq_false_or_eq_true (inW S 2 8) with hs | hs
        · have := rvp26 S   hs w
          have HS : newLE S = 0 := by unfold newLE prB; have q2 := inW_true hs; rw [if_pos]; simp <;> omega
          simpa [HS] using this
        · have := rvp27 S   hs w
          have HS : newLE S = 5 := by unfold newLE prB; have q2 := inW_false hs; rw [if_neg]; simp <;> omega
          simpa [HS] using this
      · rcases Bool.eq_false_or_eq_true (inW S 2 8) with hs | hs
        · have := rvp22 S x hx hs w
          have HS : newLE S = 0 := by unfold newLE prB; have q2 := inW_true hs; rw [if_pos]; simp <;> omega
          simpa [HS, hx] using this
        · have := rvp23 S x hx hs w
          have HS : newLE S = 5 := by unfold newLE prB; have q2 := inW_false hs; rw [if_neg]; simp <;> omega
          simpa [HS, hx] using this
    · by_cases hx : x = 0
      · subst hx
        rcases Bool.eq_false_or_eq_true (inW S 2 8) with hs | hs
        · have := rvp24 S D hD hs w
          have HS : newLE S = 0 := by unfold newLE prB; have q2 := inW_true hs; rw [if_pos]; simp <;> omega
          simpa [HS, hD] using this
        · have := rvp25 S D hD hs w
          have HS : newLE S = 5 := by unfold newLE prB; have q2 := inW_false hs; rw [if_neg]; simp <;> omega
          simpa [HS, hD] using this
      · rcases Bool.eq_false_or_eq_true (inW S 2 8) with hs | hs
        · have := rvp20 S D x hD hx hs w
          have HS : newLE S = 0 := by unfold newLE prB; have q2 := inW_true hs; rw [if_pos]; simp <;> omega
          simpa [HS, hD, hx] using this
        · have := rvp21 S D x hD hx hs w
          have HS : newLE S = 5 := by unfold newLE prB; have q2 := inW_false hs; rw [if_neg]; simp <;> omega
          simpa [HS, hD, hx] using this
  · simp only [if_true, if_false, or_true, true_or, or_false, false_or, show ((4 : Int) = 1) = False from by simp, show ((4 : Int) = 2) = False from by simp, show ((4 : Int) = 3) = False from by simp, show ((4 : Int) = 5) = False from by simp, show ((4 : Int) = 6) = False from by simp]
    by_cases hD : D = 0
    · subst hD
      by_cases hx : x = 0
      · subst hx
        rcases Bool.eq_false_or_eq_true (inW S 1 32) with hs | hs
        · have := rvp34 S   hs w
          have HS : newTE S = 0 := by unfold newTE; have q2 := inW_true hs; rw [if_neg]; omega
          simpa [HS] using this
        · have := rvp35 S   hs w
          have HS : newTE S = 5 := by unfold newTE; have q2 := inW_false hs; rw [if_pos]; omega
          simpa [HS] using this
      · rcases Bool.eq_false_or_eq_true (inW S 1 32) with hs | hs
        · have := rvp30 S x hx hs w
          have HS : newTE S = 0 := by unfold newTE; have q2 := inW_true hs; rw [if_neg]; omega
          simpa [HS, hx] using this
        · have := rvp31 S x hx hs w
          have HS : newTE S = 5 := by unfold newTE; have q2 := inW_false hs; rw [if_pos]; omega
          simpa [HS, hx] using this
    · by_cases hx : x = 0
      · subst hx
        rcases Bool.eq_false_or_eq_true (inW S 1 32) with hs | hs
        · have := rvp32 S D hD hs w
          have HS : newTE S = 0 := by unfold newTE; have q2 := inW_true hs; rw [if_neg]; omega
          simpa [HS, hD] using this
        · have := rvp33 S D hD hs w
          have HS : newTE S = 5 := by unfold newTE; have q2 := inW_false hs; rw [if_pos]; omega
          simpa [HS, hD] using this
      · rcases Bool.eq_false_or_eq_true (inW S 1 32) with hs | hs
        · have := rvp28 S D x hD hx hs w
          have HS : newTE S = 0 := by unfold newTE; have q2 := inW_true hs; rw [if_neg]; omega
          simpa [HS, hD, hx] using this
        · have := rvp29 S D x hD hx hs w
          have HS : newTE S = 5 := by unfold newTE; have q2 := inW_false hs; rw [if_pos]; omega
          simpa [HS, hD, hx] using this
  · simp only [if_true, if_false, or_true, true_or, or_false, false_or, show ((5 : Int) = 1) = False from by simp, show ((5 : Int) = 2) = False from by simp, show ((5 : Int) = 3) = False from by simp, show ((5 : Int) = 4) = False from by simp, show ((5 : Int) = 6) = False from by simp]
    by_cases hD : D = 0
    · subst hD
      by_cases hx : x = 0
      · subst hx
        rcases Bool.eq_false_or_eq_true (inW S 1 32) with hs | hs
        · have := rvp42 S   hs w
          have HS : newTE S = 0 := by unfold newTE; have q2 := inW_true hs; rw [if_neg]; omega
          simpa [HS] using this
        · have := rvp43 S   hs w
          have HS : newTE S = 5 := by unfold newTE; have q2 := inW_false hs; rw [if_pos]; omega
          simpa [HS] using this
      · rcases Bool.eq_false_or_eq_true (inW S 1 32) with hs | hs
        · have := rvp38 S x hx hs w
          have HS : newTE S = 0 := by unfold newTE; have q2 := inW_true hs; rw [if_neg]; omega
          simpa [HS, hx] using this
        · have := rvp39 S x hx hs w
          have HS : newTE S = 5 := by unfold newTE; have q2 := inW_false hs; rw [if_pos]; omega
          simpa [HS, hx] using this
    · by_cases hx : x = 0
      · subst hx
        rcases Bool.eq_false_or_eq_true (inW S 1 32) with hs | hs
        · have := rvp40 S D hD hs w
          have HS : newTE S = 0 := by unfold newTE; have q2 := inW_true hs; rw [if_neg]; omega
          simpa [HS, hD] using this
        · have := rvp41 S D hD hs w
          have HS : newTE S = 5 := by unfold newTE; have q2 := inW_false hs; rw [if_pos]; omega
          simpa [HS, hD] using this
      · rcases Bool.eq_false_or_eq_true (inW S 1 32) with hs | hs
        · have := rvp36 S D x hD hx hs w
          have HS : newTE S = 0 := by unfold newTE; have q2 := inW_true hs; rw [if_neg]; omega
          simpa [HS, hD, hx] using this
        · have := rvp37 S D x hD hx hs w
          have HS : newTE S = 5 := by unfold newTE; have q2 := inW_false hs; rw [if_pos]; omega
          simpa [HS, hD, hx] using this
  · simp only [if_true, if_false, or_true, true_or, or_false, false_or, show ((6 : Int) = 1) = False from by simp, show ((6 : Int) = 2) = False from by simp, show ((6 : Int) = 3) = False from by simp, show ((6 : Int) = 4) = False from by simp, show ((6 : Int) = 5) = False from by simp]
    by_cases hD : D = 0
    · subst hD
      by_cases hx : x = 0
      · subst hx
        rcases Bool.eq_false_or_eq_true (inW S 2 32) with hs | hs
        · have q2 := inW_true hs
          have q3 : S.tmod 2 = S % 2 := Int.tmod_eq_emod_of_nonneg (by omega)
          by_cases ho : S.tmod 2 = 0
          · have := rvp50 S   hs ho w
            have HS : newRE S = 0 := by rw [q3] at ho; unfold newRE szR; rw [if_pos]; simp <;> omega
            simpa [HS] using this
          · have := rvp55 S   hs ho w
            have HS : newRE S = 5 := by rw [q3] at ho; unfold newRE szR; rw [if_neg]; simp <;> omega
            simpa [HS] using this
        · have := rvp51 S   hs w
          have HS : newRE S = 5 := by unfold newRE szR; have q2 := inW_false hs; rw [if_neg]; simp <;> omega
          simpa [HS] using this
      · rcases Bool.eq_false_or_eq_true (inW S 2 32) with hs | hs
        · have q2 := inW_true hs
          have q3 : S.tmod 2 = S % 2 := Int.tmod_eq_emod_of_nonneg (by omega)
          by_cases ho : S.tmod 2 = 0
          · have := rvp46 S x hx hs ho w
            have HS : newRE S = 0 := by rw [q3] at ho; unfold newRE szR; rw [if_pos]; simp <;> omega
            simpa [HS, hx] using this
          · have := rvp53 S x hx hs ho w
            have HS : newRE S = 5 := by rw [q3] at ho; unfold newRE szR; rw [if_neg]; simp <;> omega
            simpa [HS, hx] using this
        · have := rvp47 S x hx hs w
          have HS : newRE S = 5 := by unfold newRE szR; have q2 := inW_false hs; rw [if_neg]; simp <;> omega
          simpa [HS, hx] using this
    · by_cases hx : x = 0
      · subst hx
        rcases Bool.eq_false_or_eq_true (inW S 2 32) with hs | hs
        · have q2 := inW_true hs
          have q3 : S.tmod 2 = S % 2 := Int.tmod_eq_emod_of_nonneg (by omega)
          by_cases ho : S.tmod 2 = 0
          · have := rvp48 S D hD hs ho w
            have HS : newRE S = 0 := by rw [q3] at ho; unfold newRE szR; rw [if_pos]; simp <;> omega
            simpa [HS, hD] using this
          · have := rvp54 S D hD hs ho w
            have HS : newRE S = 5 := by rw [q3] at ho; unfold newRE szR; rw [if_neg]; simp <;> omega
            simpa [HS, hD] using this
        · have := rvp49 S D hD hs w
          have HS : newRE S = 5 := by unfold newRE szR; have q2 := inW_false hs; rw [if_neg]; simp <;> omega
          simpa [HS, hD] using this
      · rcases Bool.eq_false_or_eq_true (inW S 2 32) with hs | hs
        · have q2 := inW_true hs
          have q3 : S.tmod 2 = S % 2 := Int.tmod_eq_emod_of_nonneg (by omega)
          by_cases ho : S.tmod 2 = 0
          · have := rvp44 S D x hD hx hs ho w
            have HS : newRE S = 0 := by rw [q3] at ho; unfold newRE szR; rw [if_pos]; simp <;> omega
            simpa [HS, hD, hx] using this
          · have := rvp52 S D x hD hx hs ho w
            have HS : newRE S = 5 := by rw [q3] at ho; unfold newRE szR; rw [if_neg]; simp <;> omega
            simpa [HS, hD, hx] using this
        · have := rvp45 S D x hD hx hs w
          have HS : newRE S = 5 := by unfold newRE szR; have q2 := inW_false hs; rw [if_neg]; simp <;> omega
          simpa [HS, hD, hx] using this
  · simp only [if_neg h1, if_neg h2, if_neg h3, if_neg h6, h4, h5, or_self, if_false]
    by_cases hD : D = 0
    · subst hD
      by_cases hx : x = 0
      · subst hx
        exact rvp62 k S   h1 h2 h3 h4 h5 h6 w
      · exact rvp58 k S x hx h1 h2 h3 h4 h5 h6 w
    · by_cases hx : x = 0
      · subst hx
        exact rvp60 k S D hD h1 h2 h3 h4 h5 h6 w
      · exact rvp56 k S D x hD hx h1 h2 h3 h4 h5 h6 w
end Go.Proofs.YtjibbnknliamkaaGreatDoor
