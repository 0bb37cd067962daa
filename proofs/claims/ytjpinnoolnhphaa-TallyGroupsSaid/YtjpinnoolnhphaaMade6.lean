/- The contracts of sketchstorelaw6.known and of sketchstorelaw6.made. -/
import Derived.Test.YtjpinnoolnhphaaRTally
import Derived.Test.YtjpinnoolnhphaaBase
namespace Go.Proofs.Ytjpinnoolnhphaa
open Go.RowKit
set_option linter.unusedVariables false
set_option linter.unusedSimpArgs false
theorem k_insert (w : World) : Calls Try.prog 10 #[.agg #[.int .i64 0, .int .i64 0, .bool false], .agg #[.string ⟨#[97]⟩, .int .i64 3]] w fun e w' =>
      e = .returned (.tuple #[.agg #[.int .i64 3, .int .i64 1, .bool false], .int .i64 0]) ∧ Below w.heap.size w w' := by
  have h := tins_any 0 0 3 false ⟨#[97]⟩ w (by decide) (by decide) (by decide) (by decide) (by decide) (by decide) (by decide)
  have e : insT 0 0 false (itemE (byt ⟨#[97]⟩) 3) 3 = (3, 1, false, 0) := by decide +kernel
  rw [e] at h
  exact h
set_option maxRecDepth 100000 in
set_option maxHeartbeats 1000000 in
theorem known_any (w : World) : Calls Try.prog 14 #[] w fun e w' => e = .returned (.bool true) ∧ Below w.heap.size w w' := by
  go_enter Try.func14, Try.ntmps14
  go_wp2_with (first
    | (go_at_call 21; refine (tnew_any _).mono ?_; rintro e w2 ⟨rfl, hb2⟩)
    | (go_at_call 10; refine (k_insert _).mono ?_; rintro e w3 ⟨rfl, hb3⟩; have B3 := bgo hb2 hb3; clear hb2 hb3))
  go_ret
  exact ⟨rfl, bal B3 _⟩
/-- Some tally. -/
def AnyT (w : World) (e : Ending) (w' : World) : Prop :=
  ∃ (T I : Int) (s : Bool), (-9223372036854775808 ≤ T ∧ T ≤ 9223372036854775807) ∧ (-9223372036854775808 ≤ I ∧ I ≤ 9223372036854775807) ∧ e = .returned (.agg #[.int .i64 T, .int .i64 I, .bool s]) ∧ Below w.heap.size w w'
theorem mask1 (n : Int) : bits .and .i64 n 1 = n % 2 := i64_mask 1 (by decide) n
set_option maxRecDepth 100000 in
set_option maxHeartbeats 1000000 in
theorem made_any (a b : Int) (w : World) (a0 : -9223372036854775808 ≤ a) (a1 : a ≤ 9223372036854775807) (b0 : -9223372036854775808 ≤ b) (b1 : b ≤ 9223372036854775807) :
    Calls Try.prog 8 #[.int .i64 a, .int .i64 b] w (AnyT w) := by
  have m1 := i64_mask20 a
  have m2 := i64_mask20 b
  have m3 := mask1 (a / 1099511627776)
  have m4 := mask3 (b / 2097152)
  have m5 := mask2 (a / 16777216)
  have m6 := mask2 (a / 67108864)
  have e0 : 0 ≤ a % 1048576 := by omega
  have e1 : a % 1048576 ≤ 1048575 := by omega
  have e2 : 0 ≤ b % 1048576 := by omega
  have e3 : b % 1048576 ≤ 1048575 := by omega
  have e4 : 0 ≤ b / 2097152 % 8 := by omega
  have e5 : b / 2097152 % 8 ≤ 7 := by omega
  have e6 : 0 ≤ a / 16777216 % 4 := by omega
  have e7 : a / 16777216 % 4 ≤ 3 := by omega
  have e8 : 0 ≤ a / 67108864 % 4 := by omega
  have e9 : a / 67108864 % 4 ≤ 3 := by omega
  generalize a / 1099511627776 % 2 = s at *
  generalize a % 1048576 = x at *
  generalize b % 1048576 = y at *
  generalize b / 2097152 % 8 = q at *
  generalize a / 16777216 % 4 = p at *
  generalize a / 67108864 % 4 = r at *
  have f0 : 0 ≤ y % (x + 1) := Int.emod_nonneg _ (by omega)
  have f1 : y % (x + 1) < x + 1 := Int.emod_lt_of_pos _ (by omega)
  have f2 : (x + 1 == 0) = false := beq_eq_false_iff_ne.2 (by omega)
  go_enter Try.func8, Try.ntmps8
  go_wp2
  · refine bodyPost_ret (v := .agg #[.int .i64 (4294967295 - p), .int .i64 (y % (x + 1)), .bool (s == 1)]) (by simp [results, Try.results8, go_sem, *]) rfl ⟨4294967295 - p, y % (x + 1), s == 1, by omega, by omega, rfl, ?_⟩
    exact b2 _ _
  · refine bodyPost_ret (v := .agg #[.int .i64 (4294967295 - p), .int .i64 (4294967295 - r - 3), .bool (s == 1)]) (by simp [results, Try.results8, go_sem, *]) rfl ⟨4294967295 - p, 4294967295 - r - 3, s == 1, by omega, by omega, rfl, ?_⟩
    exact b2 _ _
  · refine bodyPost_ret (v := .agg #[.int .i64 (a), .int .i64 (b), .bool (s == 1)]) (by simp [results, Try.results8, go_sem, *]) rfl ⟨a, b, s == 1, by omega, by omega, rfl, ?_⟩
    exact b2 _ _
  · refine bodyPost_ret (v := .agg #[.int .i64 (x), .int .i64 (y % (x + 1)), .bool (s == 1)]) (by simp [results, Try.results8, go_sem, *]) rfl ⟨x, y % (x + 1), s == 1, by omega, by omega, rfl, ?_⟩
    exact b2 _ _
end Go.Proofs.Ytjpinnoolnhphaa
