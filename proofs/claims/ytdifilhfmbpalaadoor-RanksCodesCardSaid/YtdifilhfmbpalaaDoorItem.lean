/- The contracts of IsKey and ValidateItem of package names and of the reference. -/
import Derived.Test.YtdifilhfmbpalaaDoorWords
import Derived.Lib.Strings
namespace Go.Proofs.YtdifilhfmbpalaaDoor
open Go.RowKit
set_option linter.unusedVariables false
set_option linter.unusedSimpArgs false
def keyB (L : List Int) : Bool := decide (1 ≤ L.length) && decide (L.length ≤ 32)
def itemE (L : List Int) (w : Int) : Int := if keyB L = false then 7 else if w < 1 ∨ 4294967295 < w then 5 else 0
theorem size_zero (s : ByteArray) (h : s.size = 0) : s = ByteArray.empty := by
  have := byt_len s
  rw [h] at this
  simpa [byt] using this
theorem str_ne {s : ByteArray} (h : 0 < s.size) : s.toList.isEmpty = false := by
  rw [Lib.toList_data]
  cases h' : s.data.toList with
  | nil => have := Lib.size_eq s; rw [h', List.length_nil] at this; omega
  | cons _ _ => rfl
theorem isKey_any (s : ByteArray) (w : World) (hs : s.size ≤ maxLen) :
    Calls Tryd.prog 48 #[.string s] w fun e w' => e = .returned (.bool (keyB (byt s))) ∧ w = w' := by
  unfold maxLen at hs
  unfold keyB
  rw [byt_len]
  by_cases h0 : 0 < s.size
  · have hg : (1 : Nat) ≤ s.size := h0
    have hse := str_ne h0
    go_enter Tryd.func48, Tryd.ntmps48
    go_wp2
    all_goals
      go_ret
      exact ⟨ret_bool (by simp [*] <;> omega), rfl⟩
  · obtain rfl := size_zero s (by omega)
    go_enter Tryd.func48, Tryd.ntmps48
    go_wp2
    all_goals
      go_ret
      exact ⟨rfl, rfl⟩
theorem risKey_any (s : ByteArray) (w : World) (hs : s.size ≤ maxLen) :
    Calls Tryd.prog 47 #[.string s] w fun e w' => e = .returned (.bool (keyB (byt s))) ∧ w = w' := by
  unfold maxLen at hs
  unfold keyB
  rw [byt_len]
  go_enter Tryd.func47, Tryd.ntmps47
  go_wp2
  all_goals
    go_ret
    exact ⟨ret_bool (by rw [Bool.eq_iff_iff]; simp [*] <;> omega), rfl⟩
theorem item_any (s : ByteArray) (n : Int) (w : World) (hs : s.size ≤ maxLen) (n0 : -9223372036854775808 ≤ n) (n1 : n ≤ 9223372036854775807) :
    Calls Tryd.prog 33 #[.agg #[.string s, .int .i64 n]] w fun e w' => e = .returned (.int .i64 (itemE (byt s) n)) ∧ Below w.heap.size w w' := by
  have hk := fun w => isKey_any s w hs
  unfold itemE
  generalize keyB (byt s) = K at *
  cases K
  all_goals
    go_enter Tryd.func33, Tryd.ntmps33
    go_wp2_with (go_at_call 48; refine (hk _).mono ?_; rintro e w' ⟨rfl, rfl⟩)
    all_goals
      go_ret
      exact ⟨ret_int (by first | rfl | (simp [*] <;> omega)), (Below.refl _ _).alloc (Nat.le_refl _) _⟩
theorem ritem_any (s : ByteArray) (n : Int) (w : World) (hs : s.size ≤ maxLen) (n0 : -9223372036854775808 ≤ n) (n1 : n ≤ 9223372036854775807) :
    Calls Tryd.prog 37 #[.agg #[.string s, .int .i64 n]] w fun e w' => e = .returned (.int .i64 (itemE (byt s) n)) ∧ Below w.heap.size w w' := by
  have hk := fun w => risKey_any s w hs
  unfold itemE
  generalize keyB (byt s) = K at *
  cases K
  all_goals
    go_enter Tryd.func37, Tryd.ntmps37
    go_wp2_with (go_at_call 47; refine (hk _).mono ?_; rintro e w' ⟨rfl, rfl⟩)
    all_goals
      go_ret
      exact ⟨ret_int (by first | rfl | (simp [*] <;> omega)), (Below.refl _ _).alloc (Nat.le_refl _) _⟩
end Go.Proofs.YtdifilhfmbpalaaDoor
