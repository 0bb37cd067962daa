/- The base's Name; the law's spoil. -/
import Derived.Test.YtpehbfghajlgmaaGreatBgP
import Derived.Test.YtpehbfghajlgmaaGreatBits
import Derived.Deep.CutBlock
import Derived.Deep.CutRange
namespace Go.Proofs.YtpehbfghajlgmaaGreat
open Go.RowKit
set_option linter.unusedVariables false
set_option linter.unusedSimpArgs false
theorem bmask2 (n : Int) : bits .and .i64 n 3 = n % 4 := i64_mask 2 (by decide) n
theorem bmask3 (n : Int) : bits .and .i64 n 7 = n % 8 := i64_mask 3 (by decide) n
theorem bmask4 (n : Int) : bits .and .i64 n 15 = n % 16 := i64_mask 4 (by decide) n
theorem bmask24 (n : Int) : bits .and .i64 n 16777215 = n % 16777216 := i64_mask 24 (by decide) n
theorem tmod_nat {x : Int} (h : 0 ≤ x) {n : Nat} (hn : 0 < n) : ∃ i : Nat, Int.tmod x (n : Int) = (i : Int) ∧ i < n := by
  rw [Int.tmod_eq_emod_of_nonneg h]
  have h1 := Int.emod_nonneg x (show (n : Int) ≠ 0 by omega)
  have h2 := Int.emod_lt_of_pos x (show (0 : Int) < n by omega)
  exact ⟨(x % (n : Int)).toNat, by omega, by omega⟩
/-- One of the three names. -/
def ThreeN (s : ByteArray) : Prop := s = ⟨#[97]⟩ ∨ s = ⟨#[98]⟩ ∨ s = ⟨#[99]⟩
theorem ThreeN.ok {s : ByteArray} (h : ThreeN s) : s.size ≤ maxLen := by
  rcases h with rfl | rfl | rfl <;> decide
set_option maxRecDepth 100000 in
theorem bname_any (n : Int) (w : World) : Calls Tryz.prog 8 #[.int .i64 n] w fun e w' => ∃ s, e = .returned (.string s) ∧ ThreeN s ∧ Below w.heap.size w w' := by
  have m1 := bmask24 n
  have r1 : 0 ≤ n % 16777216 := by omega
  generalize n % 16777216 = x at *
  obtain ⟨i, hi, hi3⟩ := tmod_nat r1 (n := 3) (by decide)
  have hi : Int.tmod x 3 = (i : Int) := hi
  have h3 : i = 0 ∨ i = 1 ∨ i = 2 := by omega
  rcases h3 with rfl | rfl | rfl
  · have hi : Int.tmod x 3 = 0 := hi
    go_enter Tryz.func8, Tryz.ntmps8
    go_wp2
    go_ret
    exact ⟨_, rfl, .inl rfl, b1 _⟩
  · have hi : Int.tmod x 3 = 1 := hi
    go_enter Tryz.func8, Tryz.ntmps8
    go_wp2
    go_ret
    exact ⟨_, rfl, .inr (.inl rfl), b1 _⟩
  · have hi : Int.tmod x 3 = 2 := hi
    go_enter Tryz.func8, Tryz.ntmps8
    go_wp2
    go_ret
    exact ⟨_, rfl, .inr (.inr rfl), b1 _⟩
end Go.Proofs.YtpehbfghajlgmaaGreat
