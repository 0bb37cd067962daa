/- The contracts of package tally but its codes. -/
import Derived.Test.YtmmdnomfpfcjiaaSat
import Derived.Test.YtmmdnomfpfcjiaaItem
import Derived.Test.YtmmdnomfpfcjiaaBel
namespace Go.Proofs.Ytmmdnomfpfcjiaa
open Go.RowKit
set_option linter.unusedVariables false
set_option linter.unusedSimpArgs false
/-- The error of a tally. -/
def valT (T I : Int) : Int := if 4294967295 < T ∨ I < 0 ∨ T < I then 5 else 0
/-- A count of a sum, and whether it had to be limited. -/
def sumT (T U : Int) : Int := satN (nat0 T + nat0 U) 4294967295
def sumF (T U : Int) : Bool := satF (nat0 T + nat0 U) 4294967295
theorem add_count (a b : Int) (w : World) (a0 : -9223372036854775808 ≤ a) (a1 : a ≤ 9223372036854775807) (b0 : -9223372036854775808 ≤ b) (b1 : b ≤ 9223372036854775807) :
    Calls Try.prog 69 #[.int .i64 a, .int .i64 b, .int .i64 4294967295] w fun e w' => e = .returned (.tuple #[.int .i64 (sumT a b), .bool (sumF a b)]) ∧ w = w' :=
  add_any a b 4294967295 w a0 a1 b0 b1 (by decide) (by decide)
/-- An insertion into a tally: the counts, the flag, the error. -/
def insT (T I : Int) (s : Bool) (e x : Int) : Int × Int × Bool × Int :=
  if valT T I ≠ 0 then (0, 0, false, valT T I) else if e ≠ 0 then (0, 0, false, e) else (sumT T x, sumT I 1, s || false || sumF T x || sumF I 1, 0)
/-- A merge of two tallies. -/
def merT (T I : Int) (s : Bool) (U J : Int) (r : Bool) : Int × Int × Bool × Int :=
  if valT T I ≠ 0 then (0, 0, false, valT T I) else if valT U J ≠ 0 then (0, 0, false, valT U J) else (sumT T U, sumT I J, s || r || sumF T U || sumF I J, 0)
end Go.Proofs.Ytmmdnomfpfcjiaa
