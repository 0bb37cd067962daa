/- The contracts of math/bits.LeadingZeros64, Len64, Mul64 and TrailingZeros64 at this translation: laid from the library's shelf; the last one where the table is laid. -/
import Derived.Shelf.Small.Bits
import Derived.Shelf.Strconv.Itoa0
import Derived.Shelf.Bits.Mul64
import Derived.Shelf.Spec.TrailingZeros
import Derived.Test.YtdifilhfmbpalaaDoorProg
namespace Go.Proofs
open Go.Shelf
def Tryd.layTz_ren : Go.Shelf.Ren := ⟨fun | 29 => 88 | n => n, fun | 0 => 0 | 3 => 3 | 4 => 4 | 5 => 5 | 22 => 104 | 25 => 34 | 54 => 128 | n => n, fun | 1 => 0 | n => n⟩
theorem Tryd.layTz : Go.Proofs.Lays7.n29 Tryd.prog Tryd.layTz_ren := {
  mixed := by kernel_rfl
  f29 := Tryd.func88.trans (congrArg some (by kernel_rfl))
  t0 := Tryd.underlying0
  a0 := Tryd.isAgg0
  z0 := Tryd.sizeOf0
  v0 := Tryd.zeroValue0
  i0 := by kernel_rfl
  t3 := Tryd.underlying3
  a3 := Tryd.isAgg3
  z3 := Tryd.sizeOf3
  v3 := Tryd.zeroValue3
  i3 := by kernel_rfl
  t4 := Tryd.underlying4
  a4 := Tryd.isAgg4
  z4 := Tryd.sizeOf4
  v4 := Tryd.zeroValue4
  i4 := by kernel_rfl
  t5 := Tryd.underlying5
  a5 := Tryd.isAgg5
  z5 := Tryd.sizeOf5
  v5 := Tryd.zeroValue5
  i5 := by kernel_rfl
  t22 := Tryd.underlying104
  a22 := Tryd.isAgg104
  z22 := Tryd.sizeOf104
  v22 := Tryd.zeroValue104
  i22 := by kernel_rfl
  t25 := Tryd.underlying34
  a25 := Tryd.isAgg34
  z25 := Tryd.sizeOf34
  v25 := Tryd.zeroValue34
  i25 := by kernel_rfl
  t54 := Tryd.underlying128
  a54 := Tryd.isAgg128
  z54 := Tryd.sizeOf128
  g1 := by kernel_rfl }
theorem Tryd.tz64 (x : Nat) (hx : x < 18446744073709551616) (w : World) (hT : x ≠ 0 → TabAt 0 Lib.deBruijn64tab w) :
    Calls Tryd.prog 88 #[.int .u64 x] w fun e w' => e = .returned (.int .i64 (Lib.ctz 64 x)) ∧ w' = w := Any7.bits_TrailingZeros64 Tryd.layTz x hx w hT
end Go.Proofs
