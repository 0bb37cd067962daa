/- The contract of sketchstorelaw7.known. -/
import Derived.Test.YtlbbmnjhohfbkaaCmIns
import Derived.Test.YtlbbmnjhohfbkaaCmEst
namespace Go.Proofs.Ytlbbmnjhohfbkaa
open Go.RowKit
set_option linter.unusedVariables false
set_option linter.unusedSimpArgs false
theorem celI_one (x : Int) (k : ByteArray) : celI x 1 k 0 = 0 := by
  have := celI_lt (x := x) (D := 1) (S := 1) (k := k) (r := 0) (n := 1) (by omega) (by omega) (by omega)
  omega
theorem k_new (w : World) : Calls Try.prog 11 #[.int .i64 1, .int .i64 1, .int .u64 5] w fun e w' => ∃ a n cap, e = .returned (.tuple #[.agg #[.int .i64 1, .int .i64 1, .int .u64 5, .slice a n cap, .bool false], .int .i64 0]) ∧ RdI [0] (.slice a n cap) w' ∧ Below w.heap.size w w' := by
  refine (cnew_any 1 1 5 w (by decide) (by decide) (by decide) (by decide)).mono ?_
  rintro e w' ⟨v, rfl, ⟨a, n, cap, rfl, ho⟩, hb⟩
  exact ⟨a, n, cap, rfl, ho.rd, hb⟩
theorem k_cm : cmIns ⟨1, 1, 5, [0], false⟩ ⟨#[97]⟩ 3 = ⟨1, 1, 5, [3], false⟩ := by
  have h1 : cmE 1 1 [0] = 0 := by decide
  have h2 : itemE (byt ⟨#[97]⟩) 3 = 0 := by decide +kernel
  unfold cmIns
  dsimp only
  rw [if_neg (by simp [h1]), if_neg (by simp [h2])]
  show CM.mk 1 1 5 ([(0 : Int)].set (celI 5 1 ⟨#[97]⟩ 0) (sumT ([(0 : Int)].getD (celI 5 1 ⟨#[97]⟩ 0) 0) 3)) (false || sumF ([(0 : Int)].getD (celI 5 1 ⟨#[97]⟩ 0) 0) 3) = _
  rw [celI_one]
  rfl
theorem k_cmE : cmInsE ⟨1, 1, 5, [0], false⟩ ⟨#[97]⟩ 3 = 0 := by
  have h1 : cmE 1 1 [0] = 0 := by decide
  have h2 : itemE (byt ⟨#[97]⟩) 3 = 0 := by decide +kernel
  unfold cmInsE
  dsimp only
  rw [if_neg (by simp [h1]), h2]
theorem k_ins (a : Option Addr) (n cap : Nat) (w : World) (hR : RdI [0] (.slice a n cap) w) : Calls Try.prog 19 #[.agg #[.int .i64 1, .int .i64 1, .int .u64 5, .slice a n cap, .bool false], .agg #[.string ⟨#[97]⟩, .int .i64 3]] w fun e w' =>
    ∃ a n cap, e = .returned (.tuple #[.agg #[.int .i64 1, .int .i64 1, .int .u64 5, .slice a n cap, .bool false], .int .i64 0]) ∧ RdI [3] (.slice a n cap) w' ∧ Below w.heap.size w w' := by
  have h := cins_any ⟨1, 1, 5, [0], false⟩ _ ⟨#[97]⟩ 3 w ⟨by decide, by decide, by decide, by decide⟩ ⟨a, n, cap, rfl, hR⟩ (by decide) (by decide) (by decide)
  rw [k_cm, k_cmE] at h
  refine h.mono ?_
  rintro e w' ⟨v, rfl, ⟨a, n, cap, rfl, ho⟩, hb⟩
  exact ⟨a, n, cap, rfl, ho.rd, hb⟩
theorem k_est (a : Option Addr) (n cap : Nat) (w : World) (hR : RdI [3] (.slice a n cap) w) : Calls Try.prog 25 #[.agg #[.int .i64 1, .int .i64 1, .int .u64 5, .slice a n cap, .bool false], .string ⟨#[98]⟩] w fun e w' =>
    e = .returned (.tuple #[.int .i64 3, .int .i64 0]) ∧ Below w.heap.size w w' := by
  have h := cest_any ⟨1, 1, 5, [3], false⟩ _ ⟨#[98]⟩ w ⟨by decide, by decide, by decide, by decide⟩ ⟨a, n, cap, rfl, hR⟩ (by decide)
  have h1 : cmE 1 1 [3] = 0 := by decide
  have h2 : keyB (byt ⟨#[98]⟩) = true := by decide +kernel
  have e1 : cmEstE ⟨1, 1, 5, [3], false⟩ ⟨#[98]⟩ = 0 := by
    unfold cmEstE
    dsimp only
    rw [if_neg (by simp [h1]), if_neg (by simp [h2])]
  have e2 : cmEst ⟨1, 1, 5, [3], false⟩ ⟨#[98]⟩ = 3 := by
    unfold cmEst
    rw [e1, if_neg (by simp)]
    show min 4294967295 ([(3 : Int)].getD (celI 5 1 ⟨#[98]⟩ 0) 0) = 3
    rw [celI_one]
    rfl
  rw [e1, e2] at h
  exact h
set_option maxRecDepth 100000 in
set_option maxHeartbeats 1000000 in
theorem known_any (w : World) : Calls Try.prog 10 #[] w fun e w' => e = .returned (.bool true) ∧ Below w.heap.size w w' := by
  go_enter Try.func10, Try.ntmps10
  go_wp2_with (first
    | (go_at_call 11; refine (k_new _).mono ?_; rintro e w2 ⟨a2, n2, c2, rfl, hr2, hb2⟩; have R2 := Lib.hid hr2; have B2 := Lib.hid hb2; clear hr2 hb2)
    | (go_at_call 19; refine (k_ins _ _ _ _ (R2.out.below (b1 _))).mono ?_; rintro e w3 ⟨a3, n3, c3, rfl, hr3, hb3⟩; have R3 := Lib.hid hr3; have B3 := Lib.hid (bgo (bal B2.out _) hb3); clear hr3 hb3)
    | (go_at_call 25; refine (k_est _ _ _ _ (R3.out.below (b1 _))).mono ?_; rintro e w4 ⟨rfl, hb4⟩; have B4 := Lib.hid (bgo (bal B3.out _) hb4); clear hb4))
  go_ret
  exact ⟨rfl, B4.out⟩
end Go.Proofs.Ytlbbmnjhohfbkaa
