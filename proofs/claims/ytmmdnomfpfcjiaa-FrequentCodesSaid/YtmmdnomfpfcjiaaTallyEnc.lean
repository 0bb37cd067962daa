/- The contracts of tally.Encode and of the reference's. -/
import Derived.Test.YtmmdnomfpfcjiaaRTally
import Derived.Test.YtmmdnomfpfcjiaaWires
import Derived.Test.YtmmdnomfpfcjiaaStepApp
import Derived.Deep.RegionLaw
namespace Go.Proofs.Ytmmdnomfpfcjiaa
open Go.RowKit
set_option linter.unusedVariables false
set_option linter.unusedSimpArgs false
/-- The encoding of a flag. -/
def flagN (s : Bool) : Nat := if s then 1 else 0
/-- The encoding of a tally. -/
def codT (T I : Int) (s : Bool) : List Int := if valT T I = 0 then uintB T.toNat ++ uintB I.toNat ++ uintB (flagN s) else []
/-- How far the numbers are written. -/
def EncR (B : Nat) (A1 A2 A3 : List Int) (v c : Value) (w : World) : Prop :=
  (c = .int .i64 0 ∧ Own B [] v w) ∨ (c = .int .i64 1 ∧ Own B A1 v w) ∨ (c = .int .i64 2 ∧ Own B (A1 ++ A2) v w) ∨ (c = .int .i64 3 ∧ Own B (A1 ++ A2 ++ A3) v w)
theorem k_uint (n : Nat) (hn : n ≤ 4611686018427387904) (w : World) :
    Calls Try.prog 59 #[.int .i64 n] w fun e w' => ∃ v, e = .returned (.tuple #[v, .int .i64 0]) ∧ Own w.heap.size (uintB n) v w' ∧ Below w.heap.size w w' := by
  have h := encUint_any n w (by omega) (by omega)
  unfold encE encB at h
  rw [if_pos (by omega), if_pos (by omega), Int.toNat_natCast] at h
  exact h
theorem uintB_flag (s : Bool) : uintB (flagN s) = [(flagN s : Int)] := by
  have hf : flagN s ≤ 1 := by unfold flagN; split <;> omega
  unfold uintB
  rw [if_pos (by omega)]
theorem flag_any (s : Bool) (w : World) :
    Calls Try.prog 44 #[.bool s] w fun e w' => ∃ v, e = .returned v ∧ Own w.heap.size (uintB (flagN s)) v w' ∧ Below w.heap.size w w' := by
  rw [uintB_flag]
  cases s
  · have hb := Own.one (c := 0) (by omega) w
    go_enter Try.func44, Try.ntmps44
    go_wp2
    go_ret
    exact ⟨_, rfl, hb, b1 _⟩
  · have hb := Own.one (c := 1) (by omega) w
    go_enter Try.func44, Try.ntmps44
    go_wp2
    go_ret
    exact ⟨_, rfl, hb, b1 _⟩
end Go.Proofs.Ytmmdnomfpfcjiaa
