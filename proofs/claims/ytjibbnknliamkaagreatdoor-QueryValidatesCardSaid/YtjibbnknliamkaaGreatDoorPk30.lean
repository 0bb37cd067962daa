/- RQV: in one text. -/
import Derived.Test.YtjibbnknliamkaaGreatDoorPk26
import Derived.Test.YtjibbnknliamkaaGreatDoorPk00
import Derived.Test.YtjibbnknliamkaaGreatDoorPk20
import Derived.BigRegion
namespace Go.Proofs.YtjibbnknliamkaaGreatDoor
open Go.RowKit
set_option linter.unusedVariables false
set_option linter.unusedSimpArgs false
theorem wi_true (n l h : Int) (w : World) (hh : l ≤ n ∧ n ≤ h) : Calls Tryz.prog 27 #[.int .i64 n, .int .i64 l, .int .i64 h] w fun e w' => e = .returned (.bool true) ∧ w = w' := by
  have := wi12_any n l h w
  rwa [show inW n l h = true by unfold inW; simp; omega] at this
theorem wi_false (n l h : Int) (w : World) (hh : n < l ∨ h < n) : Calls Tryz.prog 27 #[.int .i64 n, .int .i64 l, .int .i64 h] w fun e w' => e = .returned (.bool false) ∧ w = w' := by
  have := wi12_any n l h w
  rwa [show inW n l h = false by unfold inW; simp; omega] at this
set_option maxRecDepth 100000 in
set_option maxHeartbeats 1000000 in
theorem rqv_1 (k : Int) (K : ByteArray) (n u d : Int) (w : World) (hK : K.size ≤ maxLen) (hk : k = 1) :
    Calls Tryz.prog 12 #[.agg #[.int .i64 k, .string K, .int .i64 n, .int .i64 u, .int .i64 d]] w fun e w' => e = .returned (.int .i64 (qrE k K n u d)) ∧ Below w.heap.size w w' := by
  subst hk
  have W0 := Lib.hid (fun w => wi_true 1 1 7 w (by decide))
  go_enter Tryz.func12, Tryz.ntmps12
  go_wp2_with (first
    | (go_at_call 27; (with_reducible refine (W0.out _).mono ?_); rintro e w' ⟨rfl, rfl⟩))
  all_goals
    go_ret
    refine ⟨ret_int (by first | (simp [qrE, qrU, qrS, *] <;> omega) | (rename_i hlast; simp at hlast; simp [qrE, qrU, qrS, *] <;> omega)), ?_⟩
    repeat (first | exact Below.refl _ _ | refine bset ?_ _ _ _ (by simp <;> omega) | refine bal ?_ _ | refine below_drew ?_)
set_option maxRecDepth 100000 in
set_option maxHeartbeats 1000000 in
theorem rqv_3 (k : Int) (K : ByteArray) (n u d : Int) (w : World) (hK : K.size ≤ maxLen) (hk : k = 3) :
    Calls Tryz.prog 12 #[.agg #[.int .i64 k, .string K, .int .i64 n, .int .i64 u, .int .i64 d]] w fun e w' => e = .returned (.int .i64 (qrE k K n u d)) ∧ Below w.heap.size w w' := by
  subst hk
  have W0 := Lib.hid (fun w => wi_true 3 1 7 w (by decide))
  go_enter Tryz.func12, Tryz.ntmps12
  go_wp2_with (first
    | (go_at_call 27; (with_reducible refine (W0.out _).mono ?_); rintro e w' ⟨rfl, rfl⟩))
  all_goals
    go_ret
    refine ⟨ret_int (by first | (simp [qrE, qrU, qrS, *] <;> omega) | (rename_i hlast; simp at hlast; simp [qrE, qrU, qrS, *] <;> omega)), ?_⟩
    repeat (first | exact Below.refl _ _ | refine bset ?_ _ _ _ (by simp <;> omega) | refine bal ?_ _ | refine below_drew ?_)
set_option maxRecDepth 100000 in
set_option maxHeartbeats 1000000 in
theorem rqv_4 (k : Int) (K : ByteArray) (n u d : Int) (w : World) (hK : K.size ≤ maxLen) (hk : k = 4) :
    Calls Tryz.prog 12 #[.agg #[.int .i64 k, .string K, .int .i64 n, .int .i64 u, .int .i64 d]] w fun e w' => e = .returned (.int .i64 (qrE k K n u d)) ∧ Below w.heap.size w w' := by
  subst hk
  have W0 := Lib.hid (fun w => wi_true 4 1 7 w (by decide))
  go_enter Tryz.func12, Tryz.ntmps12
  go_wp2_with (first
    | (go_at_call 27; (with_reducible refine (W0.out _).mono ?_); rintro e w' ⟨rfl, rfl⟩))
  all_goals
    go_ret
    refine ⟨ret_int (by first | (simp [qrE, qrU, qrS, *] <;> omega) | (rename_i hlast; simp at hlast; simp [qrE, qrU, qrS, *] <;> omega)), ?_⟩
    repeat (first | exact Below.refl _ _ | refine bset ?_ _ _ _ (by simp <;> omega) | refine bal ?_ _ | refine below_drew ?_)
set_option maxRecDepth 100000 in
set_option maxHeartbeats 1000000 in
theorem rqv_2t (k : Int) (K : ByteArray) (n u d : Int) (w : World) (hK : K.size ≤ maxLen) (hk : k = 2) (hq : keyB (byt K) = true) :
    Calls Tryz.prog 12 #[.agg #[.int .i64 k, .string K, .int .i64 n, .int .i64 u, .int .i64 d]] w fun e w' => e = .returned (.int .i64 (qrE k K n u d)) ∧ Below w.heap.size w w' := by
  subst hk
  have W0 := Lib.hid (fun w => wi_true 2 1 7 w (by decide))
  have HI := Lib.hid (fun w => risKey_any K w hK)
  rw [hq] at HI
  go_enter Tryz.func12, Tryz.ntmps12
  go_wp2_with (first
    | (go_at_call 27; (with_reducible refine (W0.out _).mono ?_); rintro e w' ⟨rfl, rfl⟩)
    | (go_at_call 28; (with_reducible refine (HI.out _).mono ?_); rintro e w' ⟨rfl, rfl⟩))
  all_goals
    go_ret
    refine ⟨ret_int (by first | (simp [qrE, qrU, qrS, *] <;> omega) | (rename_i hlast; simp at hlast; simp [qrE, qrU, qrS, *] <;> omega)), ?_⟩
    repeat (first | exact Below.refl _ _ | refine bset ?_ _ _ _ (by simp <;> omega) | refine bal ?_ _ | refine below_drew ?_)
set_option maxRecDepth 100000 in
set_option maxHeartbeats 1000000 in
theorem rqv_2f (k : Int) (K : ByteArray) (n u d : Int) (w : World) (hK : K.size ≤ maxLen) (hk : k = 2) (hq : keyB (byt K) = false) :
    Calls Tryz.prog 12 #[.agg #[.int .i64 k, .string K, .int .i64 n, .int .i64 u, .int .i64 d]] w fun e w' => e = .returned (.int .i64 (qrE k K n u d)) ∧ Below w.heap.size w w' := by
  subst hk
  have W0 := Lib.hid (fun w => wi_true 2 1 7 w (by decide))
  have HI := Lib.hid (fun w => risKey_any K w hK)
  rw [hq] at HI
  go_enter Tryz.func12, Tryz.ntmps12
  go_wp2_with (first
    | (go_at_call 27; (with_reducible refine (W0.out _).mono ?_); rintro e w' ⟨rfl, rfl⟩)
    | (go_at_call 28; (with_reducible refine (HI.out _).mono ?_); rintro e w' ⟨rfl, rfl⟩))
  all_goals
    go_ret
    refine ⟨ret_int (by first | (simp [qrE, qrU, qrS, *] <;> omega) | (rename_i hlast; simp at hlast; simp [qrE, qrU, qrS, *] <;> omega)), ?_⟩
    repeat (first | exact Below.refl _ _ | refine bset ?_ _ _ _ (by simp <;> omega) | refine bal ?_ _ | refine below_drew ?_)
set_option maxRecDepth 100000 in
set_option maxHeartbeats 1000000 in
theorem rqv_6t (k : Int) (K : ByteArray) (n u d : Int) (w : World) (hK : K.size ≤ maxLen) (hk : k = 6) (hq : keyB (byt K) = true) :
    Calls Tryz.prog 12 #[.agg #[.int .i64 k, .string K, .int .i64 n, .int .i64 u, .int .i64 d]] w fun e w' => e = .returned (.int .i64 (qrE k K n u d)) ∧ Below w.heap.size w w' := by
  subst hk
  have W0 := Lib.hid (fun w => wi_true 6 1 7 w (by decide))
  have HI := Lib.hid (fun w => risKey_any K w hK)
  rw [hq] at HI
  go_enter Tryz.func12, Tryz.ntmps12
  go_wp2_with (first
    | (go_at_call 27; (with_reducible refine (W0.out _).mono ?_); rintro e w' ⟨rfl, rfl⟩)
    | (go_at_call 28; (with_reducible refine (HI.out _).mono ?_); rintro e w' ⟨rfl, rfl⟩))
  all_goals
    go_ret
    refine ⟨ret_int (by first | (simp [qrE, qrU, qrS, *] <;> omega) | (rename_i hlast; simp at hlast; simp [qrE, qrU, qrS, *] <;> omega)), ?_⟩
    repeat (first | exact Below.refl _ _ | refine bset ?_ _ _ _ (by simp <;> omega) | refine bal ?_ _ | refine below_drew ?_)
set_option maxRecDepth 100000 in
set_option maxHeartbeats 1000000 in
theorem rqv_6f (k : Int) (K : ByteArray) (n u d : Int) (w : World) (hK : K.size ≤ maxLen) (hk : k = 6) (hq : keyB (byt K) = false) :
    Calls Tryz.prog 12 #[.agg #[.int .i64 k, .string K, .int .i64 n, .int .i64 u, .int .i64 d]] w fun e w' => e = .returned (.int .i64 (qrE k K n u d)) ∧ Below w.heap.size w w' := by
  subst hk
  have W0 := Lib.hid (fun w => wi_true 6 1 7 w (by decide))
  have HI := Lib.hid (fun w => risKey_any K w hK)
  rw [hq] at HI
  go_enter Tryz.func12, Tryz.ntmps12
  go_wp2_with (first
    | (go_at_call 27; (with_reducible refine (W0.out _).mono ?_); rintro e w' ⟨rfl, rfl⟩)
    | (go_at_call 28; (with_reducible refine (HI.out _).mono ?_); rintro e w' ⟨rfl, rfl⟩))
  all_goals
    go_ret
    refine ⟨ret_int (by first | (simp [qrE, qrU, qrS, *] <;> omega) | (rename_i hlast; simp at hlast; simp [qrE, qrU, qrS, *] <;> omega)), ?_⟩
    repeat (first | exact Below.refl _ _ | refine bset ?_ _ _ _ (by simp <;> omega) | refine bal ?_ _ | refine below_drew ?_)
set_option maxRecDepth 100000 in
set_option maxHeartbeats 1000000 in
theorem rqv_5 (k : Int) (K : ByteArray) (n u d : Int) (w : World) (hK : K.size ≤ maxLen) (hk : k = 5) (hg : ¬ (n < 0 ∨ 32 < n)) :
    Calls Tryz.prog 12 #[.agg #[.int .i64 k, .string K, .int .i64 n, .int .i64 u, .int .i64 d]] w fun e w' => e = .returned (.int .i64 (qrE k K n u d)) ∧ Below w.heap.size w w' := by
  subst hk
  have W0 := Lib.hid (fun w => wi_true 5 1 7 w (by decide))
  have W1 := Lib.hid (fun w => wi_true n 0 32 w (by omega))
  go_enter Tryz.func12, Tryz.ntmps12
  go_wp2_with (first
    | (go_at_call 27; (with_reducible refine (W0.out _).mono ?_); rintro e w' ⟨rfl, rfl⟩)
    | (go_at_call 27; (with_reducible refine (W1.out _).mono ?_); rintro e w' ⟨rfl, rfl⟩))
  all_goals
    go_ret
    refine ⟨ret_int (by first | (simp [qrE, qrU, qrS, *] <;> omega) | (rename_i hlast; simp at hlast; simp [qrE, qrU, qrS, *] <;> omega)), ?_⟩
    repeat (first | exact Below.refl _ _ | refine bset ?_ _ _ _ (by simp <;> omega) | refine bal ?_ _ | refine below_drew ?_)
set_option maxRecDepth 100000 in
set_option maxHeartbeats 1000000 in
theorem rqv_5b (k : Int) (K : ByteArray) (n u d : Int) (w : World) (hK : K.size ≤ maxLen) (hk : k = 5) (hg : n < 0 ∨ 32 < n) :
    Calls Tryz.prog 12 #[.agg #[.int .i64 k, .string K, .int .i64 n, .int .i64 u, .int .i64 d]] w fun e w' => e = .returned (.int .i64 (qrE k K n u d)) ∧ Below w.heap.size w w' := by
  subst hk
  have W0 := Lib.hid (fun w => wi_true 5 1 7 w (by decide))
  have W1 := Lib.hid (fun w => wi_false n 0 32 w (hg))
  go_enter Tryz.func12, Tryz.ntmps12
  go_wp2_with (first
    | (go_at_call 27; (with_reducible refine (W0.out _).mono ?_); rintro e w' ⟨rfl, rfl⟩)
    | (go_at_call 27; (with_reducible refine (W1.out _).mono ?_); rintro e w' ⟨rfl, rfl⟩))
  all_goals
    go_ret
    refine ⟨ret_int (by first | (simp [qrE, qrU, qrS, *] <;> omega) | (rename_i hlast; simp at hlast; simp [qrE, qrU, qrS, *] <;> omega)), ?_⟩
    repeat (first | exact Below.refl _ _ | refine bset ?_ _ _ _ (by simp <;> omega) | refine bal ?_ _ | refine below_drew ?_)
set_option maxRecDepth 100000 in
set_option maxHeartbeats 1000000 in
theorem rqv_7 (k : Int) (K : ByteArray) (n u d : Int) (w : World) (hK : K.size ≤ maxLen) (hk : k = 7) (hg : ¬ (d < 1 ∨ 1000000 < d ∨ u < 0 ∨ d < u)) :
    Calls Tryz.prog 12 #[.agg #[.int .i64 k, .string K, .int .i64 n, .int .i64 u, .int .i64 d]] w fun e w' => e = .returned (.int .i64 (qrE k K n u d)) ∧ Below w.heap.size w w' := by
  subst hk
  have W0 := Lib.hid (fun w => wi_true 7 1 7 w (by decide))
  have W1 := Lib.hid (fun w => wi_true d 1 1000000 w (by omega))
  have W2 := Lib.hid (fun w => wi_true u 0 d w (by omega))
  go_enter Tryz.func12, Tryz.ntmps12
  go_wp2_with (first
    | (go_at_call 27; (with_reducible refine (W0.out _).mono ?_); rintro e w' ⟨rfl, rfl⟩)
    | (go_at_call 27; (with_reducible refine (W1.out _).mono ?_); rintro e w' ⟨rfl, rfl⟩)
    | (go_at_call 27; (with_reducible refine (W2.out _).mono ?_); rintro e w' ⟨rfl, rfl⟩))
  all_goals
    go_ret
    refine ⟨ret_int (by first | (simp [qrE, qrU, qrS, *] <;> omega) | (rename_i hlast; simp at hlast; simp [qrE, qrU, qrS, *] <;> omega)), ?_⟩
    repeat (first | exact Below.refl _ _ | refine bset ?_ _ _ _ (by simp <;> omega) | refine bal ?_ _ | refine below_drew ?_)
set_option maxRecDepth 100000 in
set_option maxHeartbeats 1000000 in
theorem rqv_7b (k : Int) (K : ByteArray) (n u d : Int) (w : World) (hK : K.size ≤ maxLen) (hk : k = 7) (hg : d < 1 ∨ 1000000 < d ∨ u < 0 ∨ d < u) :
    Calls Tryz.prog 12 #[.agg #[.int .i64 k, .string K, .int .i64 n, .int .i64 u, .int .i64 d]] w fun e w' => e = .returned (.int .i64 (qrE k K n u d)) ∧ Below w.heap.size w w' := by
  subst hk
  have hE : qrE 7 K n u d = 5 := by simp [qrE, qrU, hg]
  rw [hE]
  have W0 := Lib.hid (fun w => wi_true 7 1 7 w (by decide))
  by_cases hd : d < 1 ∨ 1000000 < d
  · have W1 := Lib.hid (fun w => wi_false d 1 1000000 w hd)
    clear hd hg hE
    go_enter Tryz.func12, Tryz.ntmps12
    go_wp2_with (first
      | (go_at_call 27; (with_reducible refine (W0.out _).mono ?_); rintro e w' ⟨rfl, rfl⟩)
      | (go_at_call 27; (with_reducible refine (W1.out _).mono ?_); rintro e w' ⟨rfl, rfl⟩))
    all_goals
      go_ret
      refine ⟨rfl, ?_⟩
      repeat (first | exact Below.refl _ _ | refine bset ?_ _ _ _ (by simp <;> omega) | refine bal ?_ _ | refine below_drew ?_)
  · have W1 := Lib.hid (fun w => wi_true d 1 1000000 w (by omega))
    have W2 := Lib.hid (fun w => wi_false u 0 d w (by omega))
    clear hd hg hE
    go_enter Tryz.func12, Tryz.ntmps12
    go_wp2_with (first
      | (go_at_call 27; (with_reducible refine (W0.out _).mono ?_); rintro e w' ⟨rfl, rfl⟩)
      | (go_at_call 27; (with_reducible refine (W1.out _).mono ?_); rintro e w' ⟨rfl, rfl⟩)
      | (go_at_call 27; (with_reducible refine (W2.out _).mono ?_); rintro e w' ⟨rfl, rfl⟩))
    all_goals
      go_ret
      refine ⟨rfl, ?_⟩
      repeat (first | exact Below.refl _ _ | refine bset ?_ _ _ _ (by simp <;> omega) | refine bal ?_ _ | refine below_drew ?_)
set_option maxRecDepth 100000 in
set_option maxHeartbeats 1000000 in
theorem rqv_0 (k : Int) (K : ByteArray) (n u d : Int) (w : World) (hK : K.size ≤ maxLen) (hk : k < 1 ∨ 7 < k) :
    Calls Tryz.prog 12 #[.agg #[.int .i64 k, .string K, .int .i64 n, .int .i64 u, .int .i64 d]] w fun e w' => e = .returned (.int .i64 (qrE k K n u d)) ∧ Below w.heap.size w w' := by
  have hE : qrE k K n u d = 8 := by simp [qrE, hk]
  rw [hE]
  have W0 := Lib.hid (fun w => wi_false k 1 7 w hk)
  have h2 : ¬ k = 2 := by omega
  have h6 : ¬ k = 6 := by omega
  clear hk hE
  go_enter Tryz.func12, Tryz.ntmps12
  go_wp2_with (first
    | (go_at_call 27; (with_reducible refine (W0.out _).mono ?_); rintro e w' ⟨rfl, rfl⟩))
  all_goals
    go_ret
    refine ⟨rfl, ?_⟩
    repeat (first | exact Below.refl _ _ | refine bset ?_ _ _ _ (by simp <;> omega) | refine bal ?_ _ | refine below_drew ?_)
theorem rqv_any (k : Int) (K : ByteArray) (n u d : Int) (w : World) (hK : K.size ≤ maxLen) :
    Calls Tryz.prog 12 #[.agg #[.int .i64 k, .string K, .int .i64 n, .int .i64 u, .int .i64 d]] w fun e w' => e = .returned (.int .i64 (qrE k K n u d)) ∧ Below w.heap.size w w' := by
  rcases qr_cases k with h | h | h | h | h | h | h | h
  · exact rqv_1 k K n u d w hK h
  · cases hq : keyB (byt K)
    · exact rqv_2f k K n u d w hK h hq
    · exact rqv_2t k K n u d w hK h hq
  · exact rqv_3 k K n u d w hK h
  · exact rqv_4 k K n u d w hK h
  · by_cases hg : n < 0 ∨ 32 < n
    · exact rqv_5b k K n u d w hK h hg
    · exact rqv_5 k K n u d w hK h hg
  · cases hq : keyB (byt K)
    · exact rqv_6f k K n u d w hK h hq
    · exact rqv_6t k K n u d w hK h hq
  · by_cases hg : d < 1 ∨ 1000000 < d ∨ u < 0 ∨ d < u
    · exact rqv_7b k K n u d w hK h hg
    · exact rqv_7 k K n u d w hK h hg
  · exact rqv_0 k K n u d w hK h
end Go.Proofs.YtjibbnknliamkaaGreatDoor
