/- The contracts of countmin.Column and of the reference's. -/
import Derived.Test.YtlbbmnjhohfbkaaCm
import Derived.Test.YtlbbmnjhohfbkaaRTally
namespace Go.Proofs.Ytlbbmnjhohfbkaa
open Go.RowKit
set_option linter.unusedVariables false
set_option linter.unusedSimpArgs false
theorem isSize_any (S : Int) (w : World) :
    Calls Try.prog 34 #[.int .i64 S] w fun e w' => e = .returned (.bool (decide (1 ≤ S) && decide (S ≤ 64))) ∧ w = w' := by
  go_enter Try.func34, Try.ntmps34
  go_wp2
  all_goals
    go_ret
    exact ⟨ret_bool (by simp [*] <;> omega), rfl⟩
theorem isShape_any (D S : Int) (w : World) :
    Calls Try.prog 32 #[.int .i64 D, .int .i64 S] w fun e w' => e = .returned (.bool (shpB D S)) ∧ w = w' := by
  unfold shpB
  have h := fun w => isSize_any S w
  generalize (decide (1 ≤ S) && decide (S ≤ 64)) = Z at *
  go_enter Try.func32, Try.ntmps32
  go_wp2_with (go_at_call 34; refine (h _).mono ?_; rintro e w' ⟨rfl, rfl⟩)
  all_goals
    go_ret
    exact ⟨ret_bool (by simp [*] <;> omega), rfl⟩
set_option maxRecDepth 100000 in
set_option maxHeartbeats 1000000 in
theorem col_any (x r S : Int) (k : ByteArray) (w : World) (x0 : 0 ≤ x) (x1 : x ≤ 18446744073709551615) (r0 : -9223372036854775808 ≤ r) (r1 : r ≤ 9223372036854775807) (S0 : -9223372036854775808 ≤ S) (S1 : S ≤ 9223372036854775807) (hk : k.size ≤ maxLen) :
    Calls Try.prog 13 #[.int .u64 x, .int .i64 r, .int .i64 S, .string k] w fun e w' => e = .returned (.tuple #[.int .i64 (colV x r S k), .int .i64 (colE r S k)]) ∧ Below w.heap.size w w' := by
  have h1 := fun w => isKey_any k w hk
  have h2 := fun w => isSize_any S w
  have h3 := fun w => row_any x r w
  have hr := rowI_bd x r x0 x1
  have h4 := fun w => t_tab (rowI x r) w hr.1 hr.2
  have hb := hashC_bd x r k
  unfold maxLen at hk
  by_cases hE : r < 0 ∨ 7 < r ∨ S < 1 ∨ 64 < S
  · have e1 : colE r S k = 5 := by unfold colE; rw [if_pos hE]
    have e2 : colV x r S k = 0 := by unfold colV; rw [e1, if_neg (by decide)]
    rw [e1, e2]
    clear e1 e2 h1 h3 h4 hb hr
    by_cases a1 : r < 0
    · clear hE h2
      go_enter Try.func13, Try.ntmps13
      go_wp2
      go_ret2
      exact ⟨rfl, Below.refl _ _⟩
    · by_cases a2 : 7 < r
      · clear hE h2
        go_enter Try.func13, Try.ntmps13
        go_wp2
        go_ret2
        exact ⟨rfl, Below.refl _ _⟩
      · have e3 : (decide (1 ≤ S) && decide (S ≤ 64)) = false := by simp; omega
        rw [e3] at h2
        clear hE
        go_enter Try.func13, Try.ntmps13
        go_wp2_with (go_at_call 34; refine (h2 _).mono ?_; rintro e w' ⟨rfl, rfl⟩)
        go_ret2
        exact ⟨rfl, Below.refl _ _⟩
  · have e3 : (decide (1 ≤ S) && decide (S ≤ 64)) = true := by simp; omega
    rw [e3] at h2
    have q1 : ¬ r < 0 := by omega
    have q2 : ¬ 7 < r := by omega
    have q3 : 1 ≤ S := by omega
    have q4 : S ≤ 64 := by omega
    by_cases hK : keyB (byt k) = false
    · have e1 : colE r S k = 7 := by unfold colE; rw [if_neg hE, if_pos hK]
      have e2 : colV x r S k = 0 := by unfold colV; rw [e1, if_neg (by decide)]
      rw [e1, e2]
      rw [hK] at h1
      clear e1 e2 hE e3 h3 h4 hb hr
      go_enter Try.func13, Try.ntmps13
      go_wp2_with (first
        | (go_at_call 34; refine (h2 _).mono ?_; rintro e w' ⟨rfl, rfl⟩)
        | (go_at_call 35; refine (h1 _).mono ?_; rintro e w' ⟨rfl, rfl⟩))
      go_ret2
      exact ⟨rfl, Below.refl _ _⟩
    · have hK : keyB (byt k) = true := by simpa using hK
      have e1 : colE r S k = 0 := by unfold colE; rw [if_neg hE, if_neg (by rw [hK]; simp)]
      have e2 : colV x r S k = colI x r S k := by unfold colV; rw [e1, if_pos rfl]
      rw [e1, e2]
      rw [hK] at h1
      have hk' : k.size ≤ 140737488355328 := by unfold keyB at hK; rw [byt_len] at hK; simp at hK; omega
      unfold colI
      have h5 : ∀ (v : Value) (w' : World), TabIn (tab (rowI x r) 256) v w' → Calls Try.prog 36 #[v, .string k] w' fun e w'' => e = .returned (.tuple #[.int .u64 (hashC x r k), .int .i64 0]) ∧ w' = w'' :=
        fun v w' h => t_hash k hk' h
      have hm := Int.emod_nonneg (hashC x r k) (show S ≠ 0 by omega)
      have hm2 := Int.emod_lt_of_pos (hashC x r k) (show 0 < S by omega)
      have hS0 : (S == 0) = false := beq_eq_false_iff_ne.2 (by omega)
      clear e1 e2 hE e3
      generalize hashC x r k = H at *
      generalize tab (rowI x r) 256 = T at *
      generalize rowI x r = R at *
      go_enter Try.func13, Try.ntmps13
      go_wp2_with (first
        | (go_at_call 34; refine (h2 _).mono ?_; rintro e w' ⟨rfl, rfl⟩)
        | (go_at_call 35; refine (h1 _).mono ?_; rintro e w' ⟨rfl, rfl⟩)
        | (go_at_call 38; refine (h3 _).mono ?_; rintro e w' ⟨rfl, rfl⟩)
        | (go_at_call 37; refine (h4 _).mono ?_; rintro e w2 ⟨v, rfl, ht, hb2⟩; have HB := Lib.hid hb2; clear hb2)
        | (go_at_call 36; refine (h5 _ _ ht).mono ?_; rintro e w' ⟨rfl, rfl⟩))
      go_ret2
      exact ⟨rfl, HB.out⟩
set_option maxRecDepth 100000 in
set_option maxHeartbeats 1000000 in
theorem rcol_any (x r S : Int) (k : ByteArray) (w : World) (x0 : 0 ≤ x) (x1 : x ≤ 18446744073709551615) (r0 : -9223372036854775808 ≤ r) (r1 : r ≤ 9223372036854775807) (S0 : -9223372036854775808 ≤ S) (S1 : S ≤ 9223372036854775807) (hk : k.size ≤ maxLen) :
    Calls Try.prog 14 #[.int .u64 x, .int .i64 r, .int .i64 S, .string k] w fun e w' => e = .returned (.tuple #[.int .i64 (colV x r S k), .int .i64 (colE r S k)]) ∧ Below w.heap.size w w' := by
  have h1 := fun w => risKey_any k w hk
  have h2 := fun w => rwithin_any r 0 7 w
  have h2' := fun w => rwithin_any S 1 64 w
  have h3 := fun w => rrow_any x r w
  have hr := rowI_bd x r x0 x1
  have h4 := fun w => t_rtab (rowI x r) w hr.1 hr.2
  have hb := hashC_bd x r k
  unfold maxLen at hk
  by_cases hE : r < 0 ∨ 7 < r ∨ S < 1 ∨ 64 < S
  · have e1 : colE r S k = 5 := by unfold colE; rw [if_pos hE]
    have e2 : colV x r S k = 0 := by unfold colV; rw [e1, if_neg (by decide)]
    rw [e1, e2]
    clear e1 e2 h1 h3 h4 hb hr
    by_cases a1 : inW r 0 7 = false
    · rw [a1] at h2
      clear hE h2'
      go_enter Try.func14, Try.ntmps14
      go_wp2_with (go_at_call 33; refine (h2 _).mono ?_; rintro e w' ⟨rfl, rfl⟩)
      go_ret2
      exact ⟨rfl, Below.refl _ _⟩
    · have a1 : inW r 0 7 = true := by simpa using a1
      have a2 : inW S 1 64 = false := by unfold inW at a1 ⊢; simp at a1 ⊢; omega
      rw [a1] at h2
      rw [a2] at h2'
      clear hE
      go_enter Try.func14, Try.ntmps14
      go_wp2_with (first
        | (go_at_call 33; (with_reducible refine (h2 _).mono ?_); rintro e w' ⟨rfl, rfl⟩)
        | (go_at_call 33; (with_reducible refine (h2' _).mono ?_); rintro e w' ⟨rfl, rfl⟩))
      go_ret2
      exact ⟨rfl, Below.refl _ _⟩
  · have a1 : inW r 0 7 = true := by unfold inW; simp; omega
    have a2 : inW S 1 64 = true := by unfold inW; simp; omega
    rw [a1] at h2
    rw [a2] at h2'
    have q3 : 1 ≤ S := by omega
    have q4 : S ≤ 64 := by omega
    by_cases hK : keyB (byt k) = false
    · have e1 : colE r S k = 7 := by unfold colE; rw [if_neg hE, if_pos hK]
      have e2 : colV x r S k = 0 := by unfold colV; rw [e1, if_neg (by decide)]
      rw [e1, e2]
      rw [hK] at h1
      clear e1 e2 hE h3 h4 hb hr
      go_enter Try.func14, Try.ntmps14
      go_wp2_with (first
        | (go_at_call 33; (with_reducible refine (h2 _).mono ?_); rintro e w' ⟨rfl, rfl⟩)
        | (go_at_call 33; (with_reducible refine (h2' _).mono ?_); rintro e w' ⟨rfl, rfl⟩)
        | (go_at_call 39; refine (h1 _).mono ?_; rintro e w' ⟨rfl, rfl⟩))
      go_ret2
      exact ⟨rfl, Below.refl _ _⟩
    · have hK : keyB (byt k) = true := by simpa using hK
      have e1 : colE r S k = 0 := by unfold colE; rw [if_neg hE, if_neg (by rw [hK]; simp)]
      have e2 : colV x r S k = colI x r S k := by unfold colV; rw [e1, if_pos rfl]
      rw [e1, e2]
      rw [hK] at h1
      have hk' : k.size ≤ 140737488355328 := by unfold keyB at hK; rw [byt_len] at hK; simp at hK; omega
      unfold colI
      have h5 : ∀ (v : Value) (w' : World), TabIn (tab (rowI x r) 256) v w' → Calls Try.prog 40 #[v, .string k] w' fun e w'' => e = .returned (.tuple #[.int .u64 (hashC x r k), .int .i64 0]) ∧ w' = w'' :=
        fun v w' h => t_rhash k hk' h
      have hm := Int.emod_nonneg (hashC x r k) (show S ≠ 0 by omega)
      have hm2 := Int.emod_lt_of_pos (hashC x r k) (show 0 < S by omega)
      have hS0 : (S == 0) = false := beq_eq_false_iff_ne.2 (by omega)
      clear e1 e2 hE
      generalize hashC x r k = H at *
      generalize tab (rowI x r) 256 = T at *
      generalize rowI x r = R at *
      go_enter Try.func14, Try.ntmps14
      go_wp2_with (first
        | (go_at_call 33; (with_reducible refine (h2 _).mono ?_); rintro e w' ⟨rfl, rfl⟩)
        | (go_at_call 33; (with_reducible refine (h2' _).mono ?_); rintro e w' ⟨rfl, rfl⟩)
        | (go_at_call 39; refine (h1 _).mono ?_; rintro e w' ⟨rfl, rfl⟩)
        | (go_at_call 42; refine (h3 _).mono ?_; rintro e w' ⟨rfl, rfl⟩)
        | (go_at_call 41; refine (h4 _).mono ?_; rintro e w2 ⟨v, rfl, ht, hb2⟩; have HB := Lib.hid hb2; clear hb2)
        | (go_at_call 40; refine (h5 _ _ ht).mono ?_; rintro e w' ⟨rfl, rfl⟩))
      go_ret2
      exact ⟨rfl, HB.out⟩
end Go.Proofs.Ytlbbmnjhohfbkaa
