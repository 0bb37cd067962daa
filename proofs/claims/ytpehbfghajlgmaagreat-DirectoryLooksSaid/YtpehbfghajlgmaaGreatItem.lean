/- The contracts of IsKey and ValidateItem of package names and of the reference. -/
import Derived.Test.YtpehbfghajlgmaaGreatWords
import Derived.Lib.Strings
namespace Go.Proofs.YtpehbfghajlgmaaGreat
open Go.RowKit
set_option linter.unusedVariables false
set_option linter.unusedSimpArgs false
def keyB (L : List Int) : Bool := decide (1 ≤ L.length) && decide (L.length ≤ 32)
def itemE (L : List Int) (w : Int) : Int := if keyB L = false then 7 else if w < 1 ∨ 4294967295 < w then 5 else 0
theorem size_zero (s : ByteArray) (h : s.size = 0) : s = ByteArray.empty := by
  have := byt_len s
  rw [h] at this
  simpa [byt] using this
theorem str_ne {s : ByteArray} (h : 0 < s.size) : s.toList.isEmpty = false := by
  rw [Lib.toList_data]
  cases h' : s.data.toList with
  | nil => have := Lib.size_eq s; rw [h', List.length_nil] at this; omega
  | cons _ _ => rfl
end Go.Proofs.YtpehbfghajlgmaaGreat
