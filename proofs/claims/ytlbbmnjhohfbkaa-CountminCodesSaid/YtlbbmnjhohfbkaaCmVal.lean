/- The contracts of countmin.Validate, New, and of the reference's. -/
import Derived.Test.YtlbbmnjhohfbkaaCmMem
namespace Go.Proofs.Ytlbbmnjhohfbkaa
open Go.RowKit
set_option linter.unusedVariables false
set_option linter.unusedSimpArgs false
theorem all_getD {p : Int → Bool} {L : List Int} (h : ∀ j, j < L.length → p (L.getD j 0) = true) : L.all p = true := by
  rw [List.all_eq_true]
  intro n hn
  obtain ⟨j, hj, rfl⟩ := List.mem_iff_getElem.1 hn
  have := h j hj
  simpa [List.getD, hj] using this
theorem not_all_getD {p : Int → Bool} {L : List Int} {j : Nat} (hj : j < L.length) (h : p (L.getD j 0) = false) : L.all p = false := by
  rw [List.all_eq_false]
  refine ⟨L[j], List.getElem_mem hj, ?_⟩
  simpa [List.getD, hj] using h
theorem upto_succ {p : Nat → Prop} {k : Nat} (h : ∀ j, j < k → p j) (hk : p k) : ∀ j, j < k + 1 → p j := fun j hj => by
  by_cases hjk : j < k
  · exact h j hjk
  · obtain rfl : j = k := by omega
    exact hk
theorem celB_no {n : Int} (h : celB n = false) : n < 0 ∨ 4294967295 < n := by
  unfold celB at h
  simp at h
  omega
theorem cmE_shp {D S : Int} {L : List Int} (h : shpB D S = false) : cmE D S L = 5 := by unfold cmE; rw [if_pos h]
theorem cmE_len {D S : Int} {L : List Int} (h : shpB D S = true) (h2 : ¬ (L.length : Int) = D * S) : cmE D S L = 18 := by unfold cmE; rw [if_neg (by rw [h]; simp), if_pos h2]
theorem cmE_bad {D S : Int} {L : List Int} (h : shpB D S = true) (h2 : (L.length : Int) = D * S) {j : Nat} (hj : j < L.length) (h3 : celB (L.getD j 0) = false) : cmE D S L = 5 := by
  unfold cmE
  rw [if_neg (by rw [h]; simp), if_neg (by omega), if_neg (by rw [not_all_getD hj h3]; simp)]
theorem cmE_all {D S : Int} {L : List Int} (h : shpB D S = true) (h2 : (L.length : Int) = D * S) (h3 : ∀ j, j < L.length → celB (L.getD j 0) = true) : cmE D S L = 0 := by
  unfold cmE
  rw [if_neg (by rw [h]; simp), if_neg (by omega), if_pos (all_getD h3)]
theorem shp_bd {D S : Int} (h : shpB D S = true) : 1 ≤ D ∧ D ≤ 8 ∧ 1 ≤ S ∧ S ≤ 64 ∧ 0 ≤ D * S ∧ D * S ≤ 512 := by
  obtain ⟨a, b, c, d⟩ := (shpB_iff D S).1 h
  have := Int.mul_nonneg (show 0 ≤ D by omega) (show 0 ≤ S by omega)
  have : D * S ≤ 8 * 64 := Int.mul_le_mul b d (by omega) (by omega)
  omega
set_option maxRecDepth 100000 in
set_option maxHeartbeats 1000000 in
theorem cval_any (D S x : Int) (L : List Int) (a : Option Addr) (n cap : Nat) (s : Bool) (w : World) (D0 : -9223372036854775808 ≤ D) (D1 : D ≤ 9223372036854775807) (S0 : -9223372036854775808 ≤ S) (S1 : S ≤ 9223372036854775807) (h : RdI L (.slice a n cap) w) :
    Calls Try.prog 21 #[.agg #[.int .i64 D, .int .i64 S, .int .u64 x, .slice a n cap, .bool s]] w fun e w' => e = .returned (.int .i64 (cmE D S L)) ∧ Below w.heap.size w w' := by
  obtain ⟨hy, a', cap', he, h1, h2, h3⟩ := h
  simp only [Value.slice.injEq] at he
  obtain ⟨rfl, rfl, rfl⟩ := he
  have hs := fun w => isShape_any D S w
  by_cases hE : shpB D S = false
  · rw [cmE_shp hE]
    rw [hE] at hs
    clear hE hy h1 h2 h3
    go_enter Try.func21, Try.ntmps21
    go_wp2_with (go_at_call 32; refine (hs _).mono ?_; rintro e w' ⟨rfl, rfl⟩)
    go_ret
    exact ⟨rfl, b1 _⟩
  · have hE : shpB D S = true := by simpa using hE
    obtain ⟨d0, d1, s0, s1, p0, p1⟩ := shp_bd hE
    have hl1 : (L.length : Int) ≤ 9223372036854775807 := by unfold maxLen at h2; omega
    by_cases hL : (L.length : Int) = D * S
    · have H5 := Lib.hid (fun j (hj : j < L.length) (h : celB (L.getD j 0) = false) => cmE_bad hE hL hj h)
      have H0 := Lib.hid (fun h => cmE_all hE hL h)
      rw [hE] at hs
      have HC := Lib.hid h3
      have HY := Lib.hid (fun k => Rng.at_ hy k)
      have hl2 : L.length ≤ 512 := by omega
      generalize cmE D S L = E at *
      clear hE hy h3 h1 h2
      go_enter Try.func21, Try.ntmps21
      go_wp2_with (go_at_call 32; refine (hs _).mono ?_; rintro e w' ⟨rfl, rfl⟩)
      go_loop [4, 23] (fun _ i => ∃ k : Nat, k ≤ L.length ∧ i = .int .i64 (k : Int) ∧ Hid (∀ j, j < k → celB (L.getD j 0) = true)) (fun _ i => L.length - (intOf i).toNat)
      case atStart => exact ⟨0, by omega, rfl, Lib.hid (fun j hj => by omega)⟩
      case round =>
        obtain ⟨k, hk, rfl, HA⟩ := hrel
        by_cases hlt : k < L.length
        · obtain ⟨b, off, rfl, hb, hcell⟩ := HC.out (by omega)
          have hc := hcell k hlt
          have hbd := HY.out k
          by_cases hcb : celB (L.getD k 0) = true
          · have HN := Lib.hid (upto_succ (p := fun j => celB (L.getD j 0) = true) HA.out hcb)
            have hq := (celB_iff _).1 hcb
            obtain ⟨q0, q1⟩ := hq
            clear hcb hcell
            generalize L.getD k 0 = z at *
            go_wp2
            go_round
            case rel => exact ⟨k + 1, by omega, by go_num, HN⟩
            case measure => simp [intOf]; omega
          · have hcb : celB (L.getD k 0) = false := by simpa using hcb
            have e5 := H5.out k hlt hcb
            have hq := celB_no hcb
            have E5 := Lib.hid e5
            clear hcb hcell H5 H0 e5
            generalize L.getD k 0 = z at *
            rcases hq with hq | hq
            · go_wp2
              go_ret
              exact ⟨ret_int E5.out.symm, b1 _⟩
            · have hq0 : ¬ z < 0 := by omega
              go_wp2
              go_ret
              exact ⟨ret_int E5.out.symm, b1 _⟩
        · obtain rfl : k = L.length := by omega
          have E0 := Lib.hid (H0.out HA.out)
          go_wp2
          go_ret
          exact ⟨ret_int E0.out.symm, b1 _⟩
    · rw [cmE_len hE hL]
      rw [hE] at hs
      have hL2 : ((L.length : Int) != D * S) = true := by simpa using hL
      clear hE hy h1 h2 h3
      go_enter Try.func21, Try.ntmps21
      go_wp2_with (go_at_call 32; refine (hs _).mono ?_; rintro e w' ⟨rfl, rfl⟩)
      go_ret
      exact ⟨rfl, b1 _⟩
set_option maxRecDepth 100000 in
set_option maxHeartbeats 1000000 in
theorem rcval_any (D S x : Int) (L : List Int) (a : Option Addr) (n cap : Nat) (s : Bool) (w : World) (D0 : -9223372036854775808 ≤ D) (D1 : D ≤ 9223372036854775807) (S0 : -9223372036854775808 ≤ S) (S1 : S ≤ 9223372036854775807) (h : RdI L (.slice a n cap) w) :
    Calls Try.prog 22 #[.agg #[.int .i64 D, .int .i64 S, .int .u64 x, .slice a n cap, .bool s]] w fun e w' => e = .returned (.int .i64 (cmE D S L)) ∧ Below w.heap.size w w' := by
  obtain ⟨hy, a', cap', he, h1, h2, h3⟩ := h
  simp only [Value.slice.injEq] at he
  obtain ⟨rfl, rfl, rfl⟩ := he
  have hs := fun w => rwithin_any D 1 8 w
  have ht := fun w => rwithin_any S 1 64 w
  by_cases hE : shpB D S = false
  · rw [cmE_shp hE]
    have hq : inW D 1 8 = false ∨ inW D 1 8 = true ∧ inW S 1 64 = false := by unfold shpB at hE; unfold inW; simp at hE ⊢; omega
    clear hE hy h1 h2 h3
    rcases hq with hq | ⟨hq, hr⟩
    · rw [hq] at hs
      go_enter Try.func22, Try.ntmps22
      go_wp2_with (go_at_call 33; (with_reducible refine (hs _).mono ?_); rintro e w' ⟨rfl, rfl⟩)
      go_ret
      exact ⟨rfl, b1 _⟩
    · rw [hq] at hs
      rw [hr] at ht
      go_enter Try.func22, Try.ntmps22
      go_wp2_with (first
        | (go_at_call 33; (with_reducible refine (hs _).mono ?_); rintro e w' ⟨rfl, rfl⟩)
        | (go_at_call 33; (with_reducible refine (ht _).mono ?_); rintro e w' ⟨rfl, rfl⟩))
      go_ret
      exact ⟨rfl, b1 _⟩
  · have hE : shpB D S = true := by simpa using hE
    obtain ⟨d0, d1, s0, s1, p0, p1⟩ := shp_bd hE
    have hq : inW D 1 8 = true := by unfold inW; simp; omega
    have hr : inW S 1 64 = true := by unfold inW; simp; omega
    have hl1 : (L.length : Int) ≤ 9223372036854775807 := by unfold maxLen at h2; omega
    rw [hq] at hs
    rw [hr] at ht
    by_cases hL : (L.length : Int) = D * S
    · have H5 := Lib.hid (fun j (hj : j < L.length) (h : celB (L.getD j 0) = false) => cmE_bad hE hL hj h)
      have H0 := Lib.hid (fun h => cmE_all hE hL h)
      have HC := Lib.hid h3
      have HY := Lib.hid (fun k => Rng.at_ hy k)
      have hl2 : L.length ≤ 512 := by omega
      generalize cmE D S L = E at *
      clear hE hy h3 h1 h2 hq hr
      go_enter Try.func22, Try.ntmps22
      go_wp2_with (first
        | (go_at_call 33; (with_reducible refine (hs _).mono ?_); rintro e w' ⟨rfl, rfl⟩)
        | (go_at_call 33; (with_reducible refine (ht _).mono ?_); rintro e w' ⟨rfl, rfl⟩))
      go_loop [3] (fun i => ∃ k : Nat, k ≤ L.length ∧ i = .int .i64 (k : Int) ∧ Hid (∀ j, j < k → celB (L.getD j 0) = true)) (fun i => L.length - (intOf i).toNat)
      case atStart => exact ⟨0, by omega, rfl, Lib.hid (fun j hj => by omega)⟩
      case round =>
        obtain ⟨k, hk, rfl, HA⟩ := hrel
        by_cases hlt : k < L.length
        · obtain ⟨b, off, rfl, hb, hcell⟩ := HC.out (by omega)
          have hc := hcell k hlt
          have hbd := HY.out k
          have hw := fun w => rwithin_any (L.getD k 0) 0 4294967295 w
          have hce : inW (L.getD k 0) 0 4294967295 = celB (L.getD k 0) := rfl
          rw [hce] at hw
          by_cases hcb : celB (L.getD k 0) = true
          · have HN := Lib.hid (upto_succ (p := fun j => celB (L.getD j 0) = true) HA.out hcb)
            rw [hcb] at hw
            clear hcb hcell hce
            generalize L.getD k 0 = z at *
            go_wp2_with (go_at_call 33; (with_reducible refine (hw _).mono ?_); rintro e w' ⟨rfl, rfl⟩)
            go_round
            case rel => exact ⟨k + 1, by omega, by go_num, HN⟩
            case measure => simp [intOf]; omega
          · have hcb : celB (L.getD k 0) = false := by simpa using hcb
            have e5 := H5.out k hlt hcb
            have E5 := Lib.hid e5
            rw [hcb] at hw
            clear hcb hcell H5 H0 e5 hce
            generalize L.getD k 0 = z at *
            go_wp2_with (go_at_call 33; (with_reducible refine (hw _).mono ?_); rintro e w' ⟨rfl, rfl⟩)
            go_ret
            exact ⟨ret_int E5.out.symm, b1 _⟩
        · obtain rfl : k = L.length := by omega
          have E0 := Lib.hid (H0.out HA.out)
          go_wp2
          go_ret
          exact ⟨ret_int E0.out.symm, b1 _⟩
    · rw [cmE_len hE hL]
      have hL2 : ((L.length : Int) != D * S) = true := by simpa using hL
      clear hE hy h1 h2 h3 hq hr
      go_enter Try.func22, Try.ntmps22
      go_wp2_with (first
        | (go_at_call 33; (with_reducible refine (hs _).mono ?_); rintro e w' ⟨rfl, rfl⟩)
        | (go_at_call 33; (with_reducible refine (ht _).mono ?_); rintro e w' ⟨rfl, rfl⟩))
      go_ret
      exact ⟨rfl, b1 _⟩
end Go.Proofs.Ytlbbmnjhohfbkaa
