/- The contracts of the document's own saturating sums and products (package sketchstoreref1) at this translation. -/
import Derived.Test.YtgnopnifdiipkaaDoorSat
import Derived.Lib.Hide
namespace Go.Proofs.YtgnopnifdiipkaaDoor
open Go.RowKit
set_option linter.unusedVariables false
set_option linter.unusedSimpArgs false
/-- The lower half of a word. -/
theorem low32 (x : Int) (h0 : 0 ≤ x) (h1 : x ≤ 18446744073709551615) : bits .and .u64 x 4294967295 = x % 4294967296 := and_low32 x h0 (by omega)
/-- A shifted half and another half joined. -/
theorem join32 (m d : Int) (h0 : 0 ≤ m) (h2 : 0 ≤ d) (h3 : d < 4294967296) :
    bits .or .u64 (IntKind.u64.wrap (m * 4294967296)) d = m % 4294967296 * 4294967296 + d := by
  obtain ⟨n, hn⟩ := Int.eq_ofNat_of_zero_le (show 0 ≤ m % 4294967296 by omega)
  obtain ⟨k, rfl⟩ := Int.eq_ofNat_of_zero_le h2
  have e : IntKind.u64.wrap (m * 4294967296) = ((n * 4294967296 : Nat) : Int) := by rw [IntKind.wrap_u64]; omega
  rw [e, bits_or_u64_nat (n * 4294967296) k (by omega) (by omega), hn]
  have hk : k < 2 ^ 32 := by omega
  have h := Nat.shiftLeft_add_eq_or_of_lt hk n
  rw [Nat.shiftLeft_eq] at h
  have h' : n * 4294967296 ||| k = n * 4294967296 + k := h.symm
  rw [h']
  omega
set_option maxHeartbeats 400000 in
/-- The product by halves, walked. -/
theorem product_walk (x y x1 x0 y1 y0 A B C D B0 C0 D0 : Int) (a0 : 0 ≤ x) (a1 : x ≤ 18446744073709551615) (b0 : 0 ≤ y) (b1 : y ≤ 18446744073709551615)
    (e1 : x / 4294967296 = x1) (e2 : bits .and .u64 x 4294967295 = x0) (e3 : y / 4294967296 = y1) (e4 : bits .and .u64 y 4294967295 = y0)
    (eA : x1 * y1 = A) (eB : x1 * y0 = B) (eC : x0 * y1 = C) (eD : x0 * y0 = D) (f1 : bits .and .u64 B 4294967295 = B0) (f2 : bits .and .u64 C 4294967295 = C0) (f3 : bits .and .u64 D 4294967295 = D0)
    (hA0 : 0 ≤ A) (hA1 : A ≤ 18446744065119617025) (hB0 : 0 ≤ B) (hB1 : B ≤ 18446744065119617025) (hC0 : 0 ≤ C) (hC1 : C ≤ 18446744065119617025) (hD0 : 0 ≤ D) (hD1 : D ≤ 18446744065119617025)
    (k1 : 0 ≤ B0) (k2 : B0 ≤ 4294967295) (k3 : 0 ≤ C0) (k4 : C0 ≤ 4294967295) (w : World) :
    Calls Tryd.prog 65 #[.int .u64 x, .int .u64 y] w fun e w' =>
      e = .returned (.agg #[.int .u64 (A + B / 4294967296 + C / 4294967296 + (D / 4294967296 + B0 + C0) / 4294967296), .int .u64 (bits .or .u64 (IntKind.u64.wrap ((D / 4294967296 + B0 + C0) * 4294967296)) D0)]) ∧ Below w.heap.size w w' := by
  go_enter Tryd.func65, Tryd.ntmps65
  go_wp2
  exact bodyPost_ret (v := .agg #[.int .u64 (A + B / 4294967296 + C / 4294967296 + (D / 4294967296 + B0 + C0) / 4294967296), .int .u64 (bits .or .u64 (IntKind.u64.wrap ((D / 4294967296 + B0 + C0) * 4294967296)) D0)]) (by simp [results, Tryd.results65, go_sem]) rfl ⟨rfl, (Below.refl _ _).alloc (Nat.le_refl _) _⟩
/-- The product by halves: two words whose number is the product; they lie in new memory. -/
theorem product_any (x y : Int) (a0 : 0 ≤ x) (a1 : x ≤ 18446744073709551615) (b0 : 0 ≤ y) (b1 : y ≤ 18446744073709551615) :
    ∃ hi lo : Int, 0 ≤ hi ∧ hi ≤ 18446744073709551615 ∧ 0 ≤ lo ∧ lo ≤ 18446744073709551615 ∧ x * y = hi * 18446744073709551616 + lo ∧
      ∀ w, Calls Tryd.prog 65 #[.int .u64 x, .int .u64 y] w fun e w' => e = .returned (.agg #[.int .u64 hi, .int .u64 lo]) ∧ Below w.heap.size w w' := by
  obtain ⟨x1, hx1⟩ : ∃ x1, x / 4294967296 = x1 := ⟨_, rfl⟩
  obtain ⟨x0, hx0⟩ : ∃ x0, x % 4294967296 = x0 := ⟨_, rfl⟩
  obtain ⟨y1, hy1⟩ : ∃ y1, y / 4294967296 = y1 := ⟨_, rfl⟩
  obtain ⟨y0, hy0⟩ : ∃ y0, y % 4294967296 = y0 := ⟨_, rfl⟩
  have pA := prod_bound x1 y1 (by omega) (by omega) (by omega) (by omega)
  have pB := prod_bound x1 y0 (by omega) (by omega) (by omega) (by omega)
  have pC := prod_bound x0 y1 (by omega) (by omega) (by omega) (by omega)
  have pD := prod_bound x0 y0 (by omega) (by omega) (by omega) (by omega)
  have hxy : x * y = x1 * y1 * 18446744073709551616 + (x1 * y0 + x0 * y1) * 4294967296 + x0 * y0 := by
    have ex : x = x1 * 4294967296 + x0 := by omega
    have ey : y = y1 * 4294967296 + y0 := by omega
    rw [ex, ey]; exact split_mul x1 x0 y1 y0
  obtain ⟨A, hA⟩ : ∃ A, x1 * y1 = A := ⟨_, rfl⟩
  obtain ⟨B, hB⟩ : ∃ B, x1 * y0 = B := ⟨_, rfl⟩
  obtain ⟨C, hC⟩ : ∃ C, x0 * y1 = C := ⟨_, rfl⟩
  obtain ⟨D, hD⟩ : ∃ D, x0 * y0 = D := ⟨_, rfl⟩
  rw [hA] at pA hxy
  rw [hB] at pB hxy
  rw [hC] at pC hxy
  rw [hD] at pD hxy
  have w1 := fun w => product_walk x y x1 x0 y1 y0 A B C D (B % 4294967296) (C % 4294967296) (D % 4294967296) a0 a1 b0 b1 hx1 (by rw [low32 x a0 a1, hx0]) hy1 (by rw [low32 y b0 b1, hy0]) hA hB hC hD
    (low32 B (by omega) (by omega)) (low32 C (by omega) (by omega)) (low32 D (by omega) (by omega)) (by omega) (by omega) (by omega) (by omega) (by omega) (by omega) (by omega) (by omega) (by omega) (by omega) (by omega) (by omega) w
  rw [join32 _ _ (by omega) (by omega) (by omega)] at w1
  refine ⟨_, _, ?_, ?_, ?_, ?_, ?_, w1⟩
  · omega
  · omega
  · omega
  · omega
  · rw [hxy]; omega
end Go.Proofs.YtgnopnifdiipkaaDoor
