/- The contracts of package tally but its codes. -/
import Derived.Test.YtgnopnifdiipkaaDoorSat
import Derived.Test.YtgnopnifdiipkaaDoorItem
import Derived.Test.YtgnopnifdiipkaaDoorBel
namespace Go.Proofs.YtgnopnifdiipkaaDoor
open Go.RowKit
set_option linter.unusedVariables false
set_option linter.unusedSimpArgs false
/-- The error of a tally. -/
def valT (T I : Int) : Int := if 4294967295 < T ∨ I < 0 ∨ T < I then 5 else 0
/-- A count of a sum, and whether it had to be limited. -/
def sumT (T U : Int) : Int := satN (nat0 T + nat0 U) 4294967295
def sumF (T U : Int) : Bool := satF (nat0 T + nat0 U) 4294967295
/-- An insertion into a tally: the counts, the flag, the error. -/
def insT (T I : Int) (s : Bool) (e x : Int) : Int × Int × Bool × Int :=
  if valT T I ≠ 0 then (0, 0, false, valT T I) else if e ≠ 0 then (0, 0, false, e) else (sumT T x, sumT I 1, s || false || sumF T x || sumF I 1, 0)
/-- A merge of two tallies. -/
def merT (T I : Int) (s : Bool) (U J : Int) (r : Bool) : Int × Int × Bool × Int :=
  if valT T I ≠ 0 then (0, 0, false, valT T I) else if valT U J ≠ 0 then (0, 0, false, valT U J) else (sumT T U, sumT I J, s || r || sumF T U || sumF I J, 0)
end Go.Proofs.YtgnopnifdiipkaaDoor
