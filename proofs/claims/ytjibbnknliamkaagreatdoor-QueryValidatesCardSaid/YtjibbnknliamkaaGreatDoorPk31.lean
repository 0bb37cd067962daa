/- BQr: in one text. -/
import Derived.Test.YtjibbnknliamkaaGreatDoorPk26
import Derived.Test.YtjibbnknliamkaaGreatDoorPk00
import Derived.Test.YtjibbnknliamkaaGreatDoorPk06
namespace Go.Proofs.YtjibbnknliamkaaGreatDoor
open Go.RowKit
set_option linter.unusedVariables false
set_option linter.unusedSimpArgs false
theorem maskq1 (n : Int) : bits .and .i64 n 1 = n % 2 := i64_mask 1 (by decide) n
theorem maskq2 (n : Int) : bits .and .i64 n 3 = n % 4 := i64_mask 2 (by decide) n
theorem maskq3 (n : Int) : bits .and .i64 n 7 = n % 8 := i64_mask 3 (by decide) n
theorem maskq4 (n : Int) : bits .and .i64 n 15 = n % 16 := i64_mask 4 (by decide) n
theorem maskq6 (n : Int) : bits .and .i64 n 63 = n % 64 := i64_mask 6 (by decide) n
set_option maxRecDepth 100000 in
set_option maxHeartbeats 1000000 in
theorem bq_0 (m : Int) (w : World) (h0 : 0 ≤ m) (h1 : m ≤ 70000) (hr : m.tmod 7 = 0) :
    Calls Tryz.prog 13 #[.int .i64 m] w fun e w' => e = .returned (.agg #[.int .i64 (1), .string (⟨#[]⟩), .int .i64 (0), .int .i64 (0), .int .i64 (0)]) ∧ Below w.heap.size w w' := by
  go_enter Tryz.func13, Tryz.ntmps13
  go_wp2
  all_goals
    refine bodyPost_ret (v := .agg #[.int .i64 (1), .string (⟨#[]⟩), .int .i64 (0), .int .i64 (0), .int .i64 (0)]) (by simp [results, Tryz.results13, go_sem, *]) rfl ⟨rfl, ?_⟩
    repeat (first | exact Below.refl _ _ | refine bset ?_ _ _ _ (by simp <;> omega) | refine bal ?_ _ | refine below_drew ?_)
set_option maxRecDepth 100000 in
set_option maxHeartbeats 1000000 in
theorem bq_1 (m : Int) (w : World) (h0 : 0 ≤ m) (h1 : m ≤ 70000) (hr : m.tmod 7 = 1) :
    Calls Tryz.prog 13 #[.int .i64 m] w fun e w' => e = .returned (.agg #[.int .i64 (2), .string (keyS (m / 8)), .int .i64 (0), .int .i64 (0), .int .i64 (0)]) ∧ Below w.heap.size w w' := by
  have HK := Lib.hid (fun w => key_any (m / 8) w (by omega) (by omega))
  generalize keyS (m / 8) = KK at *
  go_enter Tryz.func13, Tryz.ntmps13
  go_wp2_with (first
    | (go_at_call 23; (with_reducible refine (HK.out _).mono ?_); rintro e w1 ⟨rfl, hb1⟩; have R1 := Lib.hid ((RowAt.new w zcQr 23).go hb1); have B1 := Lib.hid (bgo (b1 _) hb1); clear hb1)
    | (refine stQr rfl rfl rfl R1.out rfl rfl rfl rfl ?_; intro w2 r2 o2; have R2 := Lib.hid r2; have B2 := Lib.hid (B1.out.trans o2.1); clear r2 o2 B1 R1))
  exact ret_row Tryz.results13 rfl rfl R2.out Tryz.underlying23 rfl infQr ⟨rfl, B2.out⟩
set_option maxRecDepth 100000 in
set_option maxHeartbeats 1000000 in
theorem bq_2 (m : Int) (w : World) (h0 : 0 ≤ m) (h1 : m ≤ 70000) (hr : m.tmod 7 = 2) :
    Calls Tryz.prog 13 #[.int .i64 m] w fun e w' => e = .returned (.agg #[.int .i64 (3), .string (⟨#[]⟩), .int .i64 (0), .int .i64 (0), .int .i64 (0)]) ∧ Below w.heap.size w w' := by
  go_enter Tryz.func13, Tryz.ntmps13
  go_wp2
  all_goals
    refine bodyPost_ret (v := .agg #[.int .i64 (3), .string (⟨#[]⟩), .int .i64 (0), .int .i64 (0), .int .i64 (0)]) (by simp [results, Tryz.results13, go_sem, *]) rfl ⟨rfl, ?_⟩
    repeat (first | exact Below.refl _ _ | refine bset ?_ _ _ _ (by simp <;> omega) | refine bal ?_ _ | refine below_drew ?_)
set_option maxRecDepth 100000 in
set_option maxHeartbeats 1000000 in
theorem bq_3 (m : Int) (w : World) (h0 : 0 ≤ m) (h1 : m ≤ 70000) (hr : m.tmod 7 = 3) :
    Calls Tryz.prog 13 #[.int .i64 m] w fun e w' => e = .returned (.agg #[.int .i64 (4), .string (⟨#[]⟩), .int .i64 (0), .int .i64 (0), .int .i64 (0)]) ∧ Below w.heap.size w w' := by
  go_enter Tryz.func13, Tryz.ntmps13
  go_wp2
  all_goals
    refine bodyPost_ret (v := .agg #[.int .i64 (4), .string (⟨#[]⟩), .int .i64 (0), .int .i64 (0), .int .i64 (0)]) (by simp [results, Tryz.results13, go_sem, *]) rfl ⟨rfl, ?_⟩
    repeat (first | exact Below.refl _ _ | refine bset ?_ _ _ _ (by simp <;> omega) | refine bal ?_ _ | refine below_drew ?_)
set_option maxRecDepth 100000 in
set_option maxHeartbeats 1000000 in
theorem bq_4 (m : Int) (w : World) (h0 : 0 ≤ m) (h1 : m ≤ 70000) (hr : m.tmod 7 = 4) :
    Calls Tryz.prog 13 #[.int .i64 m] w fun e w' => e = .returned (.agg #[.int .i64 (5), .string (⟨#[]⟩), .int .i64 (m / 8 % 8), .int .i64 (0), .int .i64 (0)]) ∧ Below w.heap.size w w' := by
  have m1 := maskq3 (m / 8)
  have e1 : 0 ≤ m / 8 % 8 ∧ m / 8 % 8 ≤ 7 := by omega
  generalize m / 8 % 8 = p at *
  go_enter Tryz.func13, Tryz.ntmps13
  go_wp2
  all_goals
    refine bodyPost_ret (v := .agg #[.int .i64 (5), .string (⟨#[]⟩), .int .i64 (p), .int .i64 (0), .int .i64 (0)]) (by simp [results, Tryz.results13, go_sem, *]) rfl ⟨rfl, ?_⟩
    repeat (first | exact Below.refl _ _ | refine bset ?_ _ _ _ (by simp <;> omega) | refine bal ?_ _ | refine below_drew ?_)
set_option maxRecDepth 100000 in
set_option maxHeartbeats 1000000 in
theorem bq_5 (m : Int) (w : World) (h0 : 0 ≤ m) (h1 : m ≤ 70000) (hr : m.tmod 7 = 5) :
    Calls Tryz.prog 13 #[.int .i64 m] w fun e w' => e = .returned (.agg #[.int .i64 (6), .string (keyS (m / 8)), .int .i64 (0), .int .i64 (0), .int .i64 (0)]) ∧ Below w.heap.size w w' := by
  have HK := Lib.hid (fun w => key_any (m / 8) w (by omega) (by omega))
  generalize keyS (m / 8) = KK at *
  go_enter Tryz.func13, Tryz.ntmps13
  go_wp2_with (first
    | (go_at_call 23; (with_reducible refine (HK.out _).mono ?_); rintro e w1 ⟨rfl, hb1⟩; have R1 := Lib.hid ((RowAt.new w zcQr 23).go hb1); have B1 := Lib.hid (bgo (b1 _) hb1); clear hb1)
    | (refine stQr rfl rfl rfl R1.out rfl rfl rfl rfl ?_; intro w2 r2 o2; have R2 := Lib.hid r2; have B2 := Lib.hid (B1.out.trans o2.1); clear r2 o2 B1 R1))
  exact ret_row Tryz.results13 rfl rfl R2.out Tryz.underlying23 rfl infQr ⟨rfl, B2.out⟩
set_option maxRecDepth 100000 in
set_option maxHeartbeats 1000000 in
theorem bq_6 (m : Int) (w : World) (h0 : 0 ≤ m) (h1 : m ≤ 70000) (hr : m.tmod 7 = 6) :
    Calls Tryz.prog 13 #[.int .i64 m] w fun e w' => e = .returned (.agg #[.int .i64 (7), .string (⟨#[]⟩), .int .i64 (0), .int .i64 (m / 8 % 4), .int .i64 (3 + m / 32 % 4)]) ∧ Below w.heap.size w w' := by
  have m1 := maskq2 (m / 8)
  have m2 := maskq2 (m / 32)
  have e1 : 0 ≤ m / 8 % 4 ∧ m / 8 % 4 ≤ 3 := by omega
  have e2 : 0 ≤ m / 32 % 4 ∧ m / 32 % 4 ≤ 3 := by omega
  generalize m / 8 % 4 = p at *
  generalize m / 32 % 4 = t at *
  go_enter Tryz.func13, Tryz.ntmps13
  go_wp2
  all_goals
    refine bodyPost_ret (v := .agg #[.int .i64 (7), .string (⟨#[]⟩), .int .i64 (0), .int .i64 (p), .int .i64 (3 + t)]) (by simp [results, Tryz.results13, go_sem, *]) rfl ⟨rfl, ?_⟩
    repeat (first | exact Below.refl _ _ | refine bset ?_ _ _ _ (by simp <;> omega) | refine bal ?_ _ | refine below_drew ?_)
theorem emp_list : (⟨#[]⟩ : ByteArray).toList = [] := by rw [Lib.toList_data]
theorem emp_len : ((⟨#[]⟩ : ByteArray)).size ≤ maxLen := by decide
theorem key_len (n : Int) : (keyS n).size ≤ maxLen := by have := keyS_bd n; unfold maxLen; omega
theorem key_isB (n : Int) : keyB (byt (keyS n)) = true := by
  have := keyS_bd n
  unfold keyB
  rw [byt_len]
  simp
  omega
/-- A valid query, whatever the world. -/
theorem bq_any (m : Int) (h0 : 0 ≤ m) (h1 : m ≤ 70000) : ∃ (k : Int) (K : ByteArray) (n u d : Int), K.size ≤ maxLen ∧ qrE k K n u d = 0 ∧ ∀ w : World, Calls Tryz.prog 13 #[.int .i64 m] w fun e w' => e = .returned (.agg #[.int .i64 k, .string K, .int .i64 n, .int .i64 u, .int .i64 d]) ∧ Below w.heap.size w w' := by
  have hq : m.tmod 7 = m % 7 := Int.tmod_eq_emod_of_nonneg h0
  have h7 : m.tmod 7 = 0 ∨ m.tmod 7 = 1 ∨ m.tmod 7 = 2 ∨ m.tmod 7 = 3 ∨ m.tmod 7 = 4 ∨ m.tmod 7 = 5 ∨ m.tmod 7 = 6 := by omega
  rcases h7 with h | h | h | h | h | h | h
  · exact ⟨_, _, _, _, _, emp_len, by simp [qrE, qrU, qrS, emp_list], fun w => bq_0 m w h0 h1 h⟩
  · exact ⟨_, _, _, _, _, key_len _, by simp [qrE, qrU, qrS, key_isB], fun w => bq_1 m w h0 h1 h⟩
  · exact ⟨_, _, _, _, _, emp_len, by simp [qrE, qrU, qrS, emp_list], fun w => bq_2 m w h0 h1 h⟩
  · exact ⟨_, _, _, _, _, emp_len, by simp [qrE, qrU, qrS, emp_list], fun w => bq_3 m w h0 h1 h⟩
  · refine ⟨_, _, _, _, _, emp_len, ?_, fun w => bq_4 m w h0 h1 h⟩
    have : ¬ (m / 8 % 8 < 0 ∨ 32 < m / 8 % 8) := by omega
    simp [qrE, qrU, qrS, emp_list, this]
  · exact ⟨_, _, _, _, _, key_len _, by simp [qrE, qrU, qrS, key_isB], fun w => bq_5 m w h0 h1 h⟩
  · refine ⟨_, _, _, _, _, emp_len, ?_, fun w => bq_6 m w h0 h1 h⟩
    have : ¬ (3 + m / 32 % 4 < 1 ∨ 1000000 < 3 + m / 32 % 4 ∨ m / 8 % 4 < 0 ∨ 3 + m / 32 % 4 < m / 8 % 4) := by omega
    simp [qrE, qrU, qrS, emp_list, this]
set_option maxRecDepth 100000 in
set_option maxHeartbeats 1000000 in
theorem baq_0 (m : Int) (w : World) (h0 : 0 ≤ m) (h1 : m ≤ 70000) (k : Int) (K : ByteArray) (n u d : Int) (p : Int) (hp : m / 512 % 16 = p) (hc : p = 0)
    (HQ : ∀ w : World, Calls Tryz.prog 13 #[.int .i64 m] w fun e w' => e = .returned (.agg #[.int .i64 k, .string K, .int .i64 n, .int .i64 u, .int .i64 d]) ∧ Below w.heap.size w w') :
    Calls Tryz.prog 10 #[.int .i64 m] w fun e w' => ∃ k' K' n' u' d', e = .returned (.agg #[.int .i64 k', .string K', .int .i64 n', .int .i64 u', .int .i64 d']) ∧ (K'.size ≤ maxLen ∨ K' = K) ∧ Below w.heap.size w w' := by
  have HQ' := Lib.hid HQ
  clear HQ
  have m1 := maskq4 (m / 512)
  rw [hp] at m1
  subst hc
  have m2 := maskq4 (m / 16)
  have e2 : 0 ≤ m / 16 % 16 ∧ m / 16 % 16 ≤ 15 := by omega
  generalize m / 16 % 16 = t at *
  go_enter Tryz.func10, Tryz.ntmps10
  go_wp2_with (first
    | (go_at_call 13; (with_reducible refine (HQ'.out _).mono ?_); rintro e w1 ⟨rfl, hb1⟩; have L1 : Hid (w.heap.size < w1.heap.size) := Lib.hid (by have := hb1.size; simp at this; omega); have R1 := Lib.hid ((RowAt.new w zcQr 23).go hb1); have B1 := Lib.hid (bgo (b1 _) hb1); clear hb1)
    | (refine stQr rfl rfl rfl (RowAt.new w1 _ _) rfl rfl rfl rfl ?_; intro w2 r2 o2; have Q2 := Lib.hid r2; have D2 := Lib.hid (Below.trans (b1 _) (o2.1 : Below w1.heap.size _ w2)); have R2 := Lib.hid (R1.out.go D2.out); have B2 := Lib.hid (bgo B1.out D2.out); clear r2 o2 D2 R1 B1)
    | (refine stci (A' := #[.int .i64 (t - 3), .string (K), .int .i64 (n), .int .i64 (u), .int .i64 (d)]) rfl rfl rfl Q2.out rfl (show 0 < 5 by decide) rfl ?_; intro w3 r3 o3; have Q3 := Lib.hid r3; have R3 := Lib.hid (RowAt.oth R2.out o3 (by have := L1.out; omega)); have B3 := Lib.hid (Below.trans (B2.out) (o3.1.mono (by have := L1.out; omega))); clear r3 o3)
    | (refine ldQr (B := #[.int .i64 (t - 3), .string (K), .int .i64 (n), .int .i64 (u), .int .i64 (d)]) rfl rfl rfl Q3.out rfl rfl ?_)
    | (refine stQr rfl rfl rfl R3.out rfl rfl rfl rfl ?_; intro w9 r9 o9; have R9 := Lib.hid r9; have B9 := Lib.hid (B3.out.trans o9.1); clear r9 o9))
  exact ret_row Tryz.results10 rfl rfl R9.out Tryz.underlying23 rfl infQr ⟨_, _, _, _, _, rfl, .inr rfl, B9.out⟩
set_option maxRecDepth 100000 in
set_option maxHeartbeats 1000000 in
theorem baq_2 (m : Int) (w : World) (h0 : 0 ≤ m) (h1 : m ≤ 70000) (k : Int) (K : ByteArray) (n u d : Int) (p : Int) (hp : m / 512 % 16 = p) (hc : p = 2)
    (HQ : ∀ w : World, Calls Tryz.prog 13 #[.int .i64 m] w fun e w' => e = .returned (.agg #[.int .i64 k, .string K, .int .i64 n, .int .i64 u, .int .i64 d]) ∧ Below w.heap.size w w') :
    Calls Tryz.prog 10 #[.int .i64 m] w fun e w' => ∃ k' K' n' u' d', e = .returned (.agg #[.int .i64 k', .string K', .int .i64 n', .int .i64 u', .int .i64 d']) ∧ (K'.size ≤ maxLen ∨ K' = K) ∧ Below w.heap.size w w' := by
  have HQ' := Lib.hid HQ
  clear HQ
  have m1 := maskq4 (m / 512)
  rw [hp] at m1
  subst hc
  have m2 := maskq6 (m / 16)
  have e2 : 0 ≤ m / 16 % 64 ∧ m / 16 % 64 ≤ 63 := by omega
  generalize m / 16 % 64 = t at *
  go_enter Tryz.func10, Tryz.ntmps10
  go_wp2_with (first
    | (go_at_call 13; (with_reducible refine (HQ'.out _).mono ?_); rintro e w1 ⟨rfl, hb1⟩; have L1 : Hid (w.heap.size < w1.heap.size) := Lib.hid (by have := hb1.size; simp at this; omega); have R1 := Lib.hid ((RowAt.new w zcQr 23).go hb1); have B1 := Lib.hid (bgo (b1 _) hb1); clear hb1)
    | (refine stQr rfl rfl rfl (RowAt.new w1 _ _) rfl rfl rfl rfl ?_; intro w2 r2 o2; have Q2 := Lib.hid r2; have D2 := Lib.hid (Below.trans (b1 _) (o2.1 : Below w1.heap.size _ w2)); have R2 := Lib.hid (R1.out.go D2.out); have B2 := Lib.hid (bgo B1.out D2.out); clear r2 o2 D2 R1 B1)
    | (refine stci (A' := #[.int .i64 (k), .string (K), .int .i64 (t - 2), .int .i64 (u), .int .i64 (d)]) rfl rfl rfl Q2.out rfl (show 2 < 5 by decide) rfl ?_; intro w3 r3 o3; have Q3 := Lib.hid r3; have R3 := Lib.hid (RowAt.oth R2.out o3 (by have := L1.out; omega)); have B3 := Lib.hid (Below.trans (B2.out) (o3.1.mono (by have := L1.out; omega))); clear r3 o3)
    | (refine ldQr (B := #[.int .i64 (k), .string (K), .int .i64 (t - 2), .int .i64 (u), .int .i64 (d)]) rfl rfl rfl Q3.out rfl rfl ?_)
    | (refine stQr rfl rfl rfl R3.out rfl rfl rfl rfl ?_; intro w9 r9 o9; have R9 := Lib.hid r9; have B9 := Lib.hid (B3.out.trans o9.1); clear r9 o9))
  exact ret_row Tryz.results10 rfl rfl R9.out Tryz.underlying23 rfl infQr ⟨_, _, _, _, _, rfl, .inr rfl, B9.out⟩
set_option maxRecDepth 100000 in
set_option maxHeartbeats 1000000 in
theorem baq_3 (m : Int) (w : World) (h0 : 0 ≤ m) (h1 : m ≤ 70000) (k : Int) (K : ByteArray) (n u d : Int) (p : Int) (hp : m / 512 % 16 = p) (hc : p = 3)
    (HQ : ∀ w : World, Calls Tryz.prog 13 #[.int .i64 m] w fun e w' => e = .returned (.agg #[.int .i64 k, .string K, .int .i64 n, .int .i64 u, .int .i64 d]) ∧ Below w.heap.size w w') :
    Calls Tryz.prog 10 #[.int .i64 m] w fun e w' => ∃ k' K' n' u' d', e = .returned (.agg #[.int .i64 k', .string K', .int .i64 n', .int .i64 u', .int .i64 d']) ∧ (K'.size ≤ maxLen ∨ K' = K) ∧ Below w.heap.size w w' := by
  have HQ' := Lib.hid HQ
  clear HQ
  have m1 := maskq4 (m / 512)
  rw [hp] at m1
  subst hc
  have m2 := maskq3 (m / 16)
  have m3 := maskq2 (m / 128)
  have e2 : 0 ≤ m / 16 % 8 ∧ m / 16 % 8 ≤ 7 := by omega
  have e3 : 0 ≤ m / 128 % 4 ∧ m / 128 % 4 ≤ 3 := by omega
  generalize m / 16 % 8 = t at *
  generalize m / 128 % 4 = s at *
  go_enter Tryz.func10, Tryz.ntmps10
  go_wp2_with (first
    | (go_at_call 13; (with_reducible refine (HQ'.out _).mono ?_); rintro e w1 ⟨rfl, hb1⟩; have L1 : Hid (w.heap.size < w1.heap.size) := Lib.hid (by have := hb1.size; simp at this; omega); have R1 := Lib.hid ((RowAt.new w zcQr 23).go hb1); have B1 := Lib.hid (bgo (b1 _) hb1); clear hb1)
    | (refine stQr rfl rfl rfl (RowAt.new w1 _ _) rfl rfl rfl rfl ?_; intro w2 r2 o2; have Q2 := Lib.hid r2; have D2 := Lib.hid (Below.trans (b1 _) (o2.1 : Below w1.heap.size _ w2)); have R2 := Lib.hid (R1.out.go D2.out); have B2 := Lib.hid (bgo B1.out D2.out); clear r2 o2 D2 R1 B1)
    | (refine stci (A' := #[.int .i64 (k), .string (K), .int .i64 (n), .int .i64 (t - 1), .int .i64 (d)]) rfl rfl rfl Q2.out rfl (show 3 < 5 by decide) rfl ?_; intro w3 r3 o3; have Q3 := Lib.hid r3; have R3 := Lib.hid (RowAt.oth R2.out o3 (by have := L1.out; omega)); have B3 := Lib.hid (Below.trans (B2.out) (o3.1.mono (by have := L1.out; omega))); clear r3 o3)
    | (refine stci (A' := #[.int .i64 (k), .string (K), .int .i64 (n), .int .i64 (t - 1), .int .i64 (s)]) rfl rfl rfl Q3.out rfl (show 4 < 5 by decide) rfl ?_; intro w4 r4 o4; have Q4 := Lib.hid r4; have R4 := Lib.hid (RowAt.oth R3.out o4 (by have := L1.out; omega)); have B4 := Lib.hid (Below.trans (B3.out) (o4.1.mono (by have := L1.out; omega))); clear r4 o4)
    | (refine ldQr (B := #[.int .i64 (k), .string (K), .int .i64 (n), .int .i64 (t - 1), .int .i64 (s)]) rfl rfl rfl Q4.out rfl rfl ?_)
    | (refine stQr rfl rfl rfl R4.out rfl rfl rfl rfl ?_; intro w9 r9 o9; have R9 := Lib.hid r9; have B9 := Lib.hid (B4.out.trans o9.1); clear r9 o9))
  exact ret_row Tryz.results10 rfl rfl R9.out Tryz.underlying23 rfl infQr ⟨_, _, _, _, _, rfl, .inr rfl, B9.out⟩
set_option maxRecDepth 100000 in
set_option maxHeartbeats 1000000 in
theorem baq_4 (m : Int) (w : World) (h0 : 0 ≤ m) (h1 : m ≤ 70000) (k : Int) (K : ByteArray) (n u d : Int) (p : Int) (hp : m / 512 % 16 = p) (hc : p = 4)
    (HQ : ∀ w : World, Calls Tryz.prog 13 #[.int .i64 m] w fun e w' => e = .returned (.agg #[.int .i64 k, .string K, .int .i64 n, .int .i64 u, .int .i64 d]) ∧ Below w.heap.size w w') :
    Calls Tryz.prog 10 #[.int .i64 m] w fun e w' => ∃ k' K' n' u' d', e = .returned (.agg #[.int .i64 k', .string K', .int .i64 n', .int .i64 u', .int .i64 d']) ∧ (K'.size ≤ maxLen ∨ K' = K) ∧ Below w.heap.size w w' := by
  have HQ' := Lib.hid HQ
  clear HQ
  have m1 := maskq4 (m / 512)
  rw [hp] at m1
  subst hc
  have m2 := maskq1 (m / 16)
  have e2 : 0 ≤ m / 16 % 2 ∧ m / 16 % 2 ≤ 1 := by omega
  generalize m / 16 % 2 = t at *
  go_enter Tryz.func10, Tryz.ntmps10
  go_wp2_with (first
    | (go_at_call 13; (with_reducible refine (HQ'.out _).mono ?_); rintro e w1 ⟨rfl, hb1⟩; have L1 : Hid (w.heap.size < w1.heap.size) := Lib.hid (by have := hb1.size; simp at this; omega); have R1 := Lib.hid ((RowAt.new w zcQr 23).go hb1); have B1 := Lib.hid (bgo (b1 _) hb1); clear hb1)
    | (refine stQr rfl rfl rfl (RowAt.new w1 _ _) rfl rfl rfl rfl ?_; intro w2 r2 o2; have Q2 := Lib.hid r2; have D2 := Lib.hid (Below.trans (b1 _) (o2.1 : Below w1.heap.size _ w2)); have R2 := Lib.hid (R1.out.go D2.out); have B2 := Lib.hid (bgo B1.out D2.out); clear r2 o2 D2 R1 B1)
    | (refine stci (A' := #[.int .i64 (k), .string (K), .int .i64 (n), .int .i64 (u), .int .i64 (1000000 + t)]) rfl rfl rfl Q2.out rfl (show 4 < 5 by decide) rfl ?_; intro w3 r3 o3; have Q3 := Lib.hid r3; have R3 := Lib.hid (RowAt.oth R2.out o3 (by have := L1.out; omega)); have B3 := Lib.hid (Below.trans (B2.out) (o3.1.mono (by have := L1.out; omega))); clear r3 o3)
    | (refine ldQr (B := #[.int .i64 (k), .string (K), .int .i64 (n), .int .i64 (u), .int .i64 (1000000 + t)]) rfl rfl rfl Q3.out rfl rfl ?_)
    | (refine stQr rfl rfl rfl R3.out rfl rfl rfl rfl ?_; intro w9 r9 o9; have R9 := Lib.hid r9; have B9 := Lib.hid (B3.out.trans o9.1); clear r9 o9))
  exact ret_row Tryz.results10 rfl rfl R9.out Tryz.underlying23 rfl infQr ⟨_, _, _, _, _, rfl, .inr rfl, B9.out⟩
set_option maxRecDepth 100000 in
set_option maxHeartbeats 1000000 in
theorem baq_9 (m : Int) (w : World) (h0 : 0 ≤ m) (h1 : m ≤ 70000) (k : Int) (K : ByteArray) (n u d : Int) (p : Int) (hp : m / 512 % 16 = p) (hc : 5 ≤ p)
    (HQ : ∀ w : World, Calls Tryz.prog 13 #[.int .i64 m] w fun e w' => e = .returned (.agg #[.int .i64 k, .string K, .int .i64 n, .int .i64 u, .int .i64 d]) ∧ Below w.heap.size w w') :
    Calls Tryz.prog 10 #[.int .i64 m] w fun e w' => ∃ k' K' n' u' d', e = .returned (.agg #[.int .i64 k', .string K', .int .i64 n', .int .i64 u', .int .i64 d']) ∧ (K'.size ≤ maxLen ∨ K' = K) ∧ Below w.heap.size w w' := by
  have HQ' := Lib.hid HQ
  clear HQ
  have m1 := maskq4 (m / 512)
  rw [hp] at m1
  have c0 : ¬ p = 0 := by omega
  have c1 : ¬ p = 1 := by omega
  have c2 : ¬ p = 2 := by omega
  have c3 : ¬ p = 3 := by omega
  have c4 : ¬ p = 4 := by omega
  clear hc
  go_enter Tryz.func10, Tryz.ntmps10
  go_wp2_with (first
    | (go_at_call 13; (with_reducible refine (HQ'.out _).mono ?_); rintro e w1 ⟨rfl, hb1⟩; have L1 : Hid (w.heap.size < w1.heap.size) := Lib.hid (by have := hb1.size; simp at this; omega); have R1 := Lib.hid ((RowAt.new w zcQr 23).go hb1); have B1 := Lib.hid (bgo (b1 _) hb1); clear hb1)
    | (refine stQr rfl rfl rfl (RowAt.new w1 _ _) rfl rfl rfl rfl ?_; intro w2 r2 o2; have Q2 := Lib.hid r2; have D2 := Lib.hid (Below.trans (b1 _) (o2.1 : Below w1.heap.size _ w2)); have R2 := Lib.hid (R1.out.go D2.out); have B2 := Lib.hid (bgo B1.out D2.out); clear r2 o2 D2 R1 B1)
    | (refine ldQr (B := #[.int .i64 (k), .string (K), .int .i64 (n), .int .i64 (u), .int .i64 (d)]) rfl rfl rfl Q2.out rfl rfl ?_)
    | (refine stQr rfl rfl rfl R2.out rfl rfl rfl rfl ?_; intro w9 r9 o9; have R9 := Lib.hid r9; have B9 := Lib.hid (B2.out.trans o9.1); clear r9 o9))
  exact ret_row Tryz.results10 rfl rfl R9.out Tryz.underlying23 rfl infQr ⟨_, _, _, _, _, rfl, .inr rfl, B9.out⟩
set_option maxRecDepth 100000 in
set_option maxHeartbeats 1000000 in
theorem baq_10 (m : Int) (w : World) (h0 : 0 ≤ m) (h1 : m ≤ 70000) (k : Int) (K : ByteArray) (n u d : Int) (p : Int) (hp : m / 512 % 16 = p) (hc : p = 1) (hi : (m / 16).tmod 3 = 0)
    (HQ : ∀ w : World, Calls Tryz.prog 13 #[.int .i64 m] w fun e w' => e = .returned (.agg #[.int .i64 k, .string K, .int .i64 n, .int .i64 u, .int .i64 d]) ∧ Below w.heap.size w w') :
    Calls Tryz.prog 10 #[.int .i64 m] w fun e w' => ∃ k' K' n' u' d', e = .returned (.agg #[.int .i64 k', .string K', .int .i64 n', .int .i64 u', .int .i64 d']) ∧ (K'.size ≤ maxLen ∨ K' = K) ∧ Below w.heap.size w w' := by
  have HQ' := Lib.hid HQ
  clear HQ
  have m1 := maskq4 (m / 512)
  rw [hp] at m1
  subst hc
  go_enter Tryz.func10, Tryz.ntmps10
  go_wp2_with (first
    | (go_at_call 13; (with_reducible refine (HQ'.out _).mono ?_); rintro e w1 ⟨rfl, hb1⟩; have L1 : Hid (w.heap.size < w1.heap.size) := Lib.hid (by have := hb1.size; simp at this; omega); have R1 := Lib.hid ((RowAt.new w zcQr 23).go hb1); have B1 := Lib.hid (bgo (b1 _) hb1); clear hb1)
    | (refine stQr rfl rfl rfl (RowAt.new w1 _ _) rfl rfl rfl rfl ?_; intro w2 r2 o2; have Q2 := Lib.hid r2; have D2 := Lib.hid (Below.trans (b1 _) (o2.1 : Below w1.heap.size _ w2)); have R2 := Lib.hid (R1.out.go D2.out); have B2 := Lib.hid (bgo B1.out D2.out); clear r2 o2 D2 R1 B1)
    | (refine stcs (A' := #[.int .i64 (k), .string (⟨#[]⟩), .int .i64 (n), .int .i64 (u), .int .i64 (d)]) rfl rfl rfl (Q2.out.al _) rfl (show 1 < 5 by decide) rfl ?_; intro w3 r3 o3; have Q3 := Lib.hid r3; have R3 := Lib.hid (RowAt.oth (R2.out.al _) o3 (by have := L1.out; omega)); have B3 := Lib.hid (Below.trans (bal B2.out _) (o3.1.mono (by have := L1.out; omega))); clear r3 o3)
    | (refine ldQr (B := #[.int .i64 (k), .string (⟨#[]⟩), .int .i64 (n), .int .i64 (u), .int .i64 (d)]) rfl rfl rfl Q3.out rfl rfl ?_)
    | (refine stQr rfl rfl rfl R3.out rfl rfl rfl rfl ?_; intro w9 r9 o9; have R9 := Lib.hid r9; have B9 := Lib.hid (B3.out.trans o9.1); clear r9 o9))
  exact ret_row Tryz.results10 rfl rfl R9.out Tryz.underlying23 rfl infQr ⟨_, _, _, _, _, rfl, .inl (by decide), B9.out⟩
set_option maxRecDepth 100000 in
set_option maxHeartbeats 1000000 in
theorem baq_11 (m : Int) (w : World) (h0 : 0 ≤ m) (h1 : m ≤ 70000) (k : Int) (K : ByteArray) (n u d : Int) (p : Int) (hp : m / 512 % 16 = p) (hc : p = 1) (hi : (m / 16).tmod 3 = 1)
    (HQ : ∀ w : World, Calls Tryz.prog 13 #[.int .i64 m] w fun e w' => e = .returned (.agg #[.int .i64 k, .string K, .int .i64 n, .int .i64 u, .int .i64 d]) ∧ Below w.heap.size w w') :
    Calls Tryz.prog 10 #[.int .i64 m] w fun e w' => ∃ k' K' n' u' d', e = .returned (.agg #[.int .i64 k', .string K', .int .i64 n', .int .i64 u', .int .i64 d']) ∧ (K'.size ≤ maxLen ∨ K' = K) ∧ Below w.heap.size w w' := by
  have HQ' := Lib.hid HQ
  clear HQ
  have m1 := maskq4 (m / 512)
  rw [hp] at m1
  subst hc
  go_enter Tryz.func10, Tryz.ntmps10
  go_wp2_with (first
    | (go_at_call 13; (with_reducible refine (HQ'.out _).mono ?_); rintro e w1 ⟨rfl, hb1⟩; have L1 : Hid (w.heap.size < w1.heap.size) := Lib.hid (by have := hb1.size; simp at this; omega); have R1 := Lib.hid ((RowAt.new w zcQr 23).go hb1); have B1 := Lib.hid (bgo (b1 _) hb1); clear hb1)
    | (refine stQr rfl rfl rfl (RowAt.new w1 _ _) rfl rfl rfl rfl ?_; intro w2 r2 o2; have Q2 := Lib.hid r2; have D2 := Lib.hid (Below.trans (b1 _) (o2.1 : Below w1.heap.size _ w2)); have R2 := Lib.hid (R1.out.go D2.out); have B2 := Lib.hid (bgo B1.out D2.out); clear r2 o2 D2 R1 B1)
    | (refine stcs (A' := #[.int .i64 (k), .string (⟨#[120]⟩), .int .i64 (n), .int .i64 (u), .int .i64 (d)]) rfl rfl rfl (Q2.out.al _) rfl (show 1 < 5 by decide) rfl ?_; intro w3 r3 o3; have Q3 := Lib.hid r3; have R3 := Lib.hid (RowAt.oth (R2.out.al _) o3 (by have := L1.out; omega)); have B3 := Lib.hid (Below.trans (bal B2.out _) (o3.1.mono (by have := L1.out; omega))); clear r3 o3)
    | (refine ldQr (B := #[.int .i64 (k), .string (⟨#[120]⟩), .int .i64 (n), .int .i64 (u), .int .i64 (d)]) rfl rfl rfl Q3.out rfl rfl ?_)
    | (refine stQr rfl rfl rfl R3.out rfl rfl rfl rfl ?_; intro w9 r9 o9; have R9 := Lib.hid r9; have B9 := Lib.hid (B3.out.trans o9.1); clear r9 o9))
  exact ret_row Tryz.results10 rfl rfl R9.out Tryz.underlying23 rfl infQr ⟨_, _, _, _, _, rfl, .inl (by decide), B9.out⟩
set_option maxRecDepth 100000 in
set_option maxHeartbeats 1000000 in
theorem baq_12 (m : Int) (w : World) (h0 : 0 ≤ m) (h1 : m ≤ 70000) (k : Int) (K : ByteArray) (n u d : Int) (p : Int) (hp : m / 512 % 16 = p) (hc : p = 1) (hi : (m / 16).tmod 3 = 2)
    (HQ : ∀ w : World, Calls Tryz.prog 13 #[.int .i64 m] w fun e w' => e = .returned (.agg #[.int .i64 k, .string K, .int .i64 n, .int .i64 u, .int .i64 d]) ∧ Below w.heap.size w w') :
    Calls Tryz.prog 10 #[.int .i64 m] w fun e w' => ∃ k' K' n' u' d', e = .returned (.agg #[.int .i64 k', .string K', .int .i64 n', .int .i64 u', .int .i64 d']) ∧ (K'.size ≤ maxLen ∨ K' = K) ∧ Below w.heap.size w w' := by
  have HQ' := Lib.hid HQ
  clear HQ
  have m1 := maskq4 (m / 512)
  rw [hp] at m1
  subst hc
  go_enter Tryz.func10, Tryz.ntmps10
  go_wp2_with (first
    | (go_at_call 13; (with_reducible refine (HQ'.out _).mono ?_); rintro e w1 ⟨rfl, hb1⟩; have L1 : Hid (w.heap.size < w1.heap.size) := Lib.hid (by have := hb1.size; simp at this; omega); have R1 := Lib.hid ((RowAt.new w zcQr 23).go hb1); have B1 := Lib.hid (bgo (b1 _) hb1); clear hb1)
    | (refine stQr rfl rfl rfl (RowAt.new w1 _ _) rfl rfl rfl rfl ?_; intro w2 r2 o2; have Q2 := Lib.hid r2; have D2 := Lib.hid (Below.trans (b1 _) (o2.1 : Below w1.heap.size _ w2)); have R2 := Lib.hid (R1.out.go D2.out); have B2 := Lib.hid (bgo B1.out D2.out); clear r2 o2 D2 R1 B1)
    | (refine stcs (A' := #[.int .i64 (k), .string (⟨#[48, 49, 50, 51, 52, 53, 54, 55, 56, 57, 48, 49, 50, 51, 52, 53, 54, 55, 56, 57, 48, 49, 50, 51, 52, 53, 54, 55, 56, 57, 48, 49, 50, 51]⟩), .int .i64 (n), .int .i64 (u), .int .i64 (d)]) rfl rfl rfl (Q2.out.al _) rfl (show 1 < 5 by decide) rfl ?_; intro w3 r3 o3; have Q3 := Lib.hid r3; have R3 := Lib.hid (RowAt.oth (R2.out.al _) o3 (by have := L1.out; omega)); have B3 := Lib.hid (Below.trans (bal B2.out _) (o3.1.mono (by have := L1.out; omega))); clear r3 o3)
    | (refine ldQr (B := #[.int .i64 (k), .string (⟨#[48, 49, 50, 51, 52, 53, 54, 55, 56, 57, 48, 49, 50, 51, 52, 53, 54, 55, 56, 57, 48, 49, 50, 51, 52, 53, 54, 55, 56, 57, 48, 49, 50, 51]⟩), .int .i64 (n), .int .i64 (u), .int .i64 (d)]) rfl rfl rfl Q3.out rfl rfl ?_)
    | (refine stQr rfl rfl rfl R3.out rfl rfl rfl rfl ?_; intro w9 r9 o9; have R9 := Lib.hid r9; have B9 := Lib.hid (B3.out.trans o9.1); clear r9 o9))
  exact ret_row Tryz.results10 rfl rfl R9.out Tryz.underlying23 rfl infQr ⟨_, _, ⟨_, _, _, rfl⟩, .inl (by decide), B9.out⟩
/-- A query of any form. -/
theorem baq_any (m : Int) (w : World) (h0 : 0 ≤ m) (h1 : m ≤ 70000) : Calls Tryz.prog 10 #[.int .i64 m] w fun e w' => ∃ k K n u d, e = .returned (.agg #[.int .i64 k, .string K, .int .i64 n, .int .i64 u, .int .i64 d]) ∧ K.size ≤ maxLen ∧ Below w.heap.size w w' := by
  obtain ⟨k, K, n, u, d, hK, -, HQ⟩ := bq_any m h0 h1
  have hp : 0 ≤ m / 512 % 16 ∧ m / 512 % 16 ≤ 15 := by omega
  have h3 : (m / 16).tmod 3 = 0 ∨ (m / 16).tmod 3 = 1 ∨ (m / 16).tmod 3 = 2 := by
    have : (m / 16).tmod 3 = m / 16 % 3 := Int.tmod_eq_emod_of_nonneg (by omega)
    omega
  have fin : ∀ e w', (∃ k' K' n' u' d', e = Ending.returned (.agg #[.int .i64 k', .string K', .int .i64 n', .int .i64 u', .int .i64 d']) ∧ (K'.size ≤ maxLen ∨ K' = K) ∧ Below w.heap.size w w') → ∃ k K n u d, e = Ending.returned (.agg #[.int .i64 k, .string K, .int .i64 n, .int .i64 u, .int .i64 d]) ∧ K.size ≤ maxLen ∧ Below w.heap.size w w' := by
    rintro e w' ⟨k', K', n', u', d', he, hk, hb⟩
    exact ⟨k', K', n', u', d', he, hk.elim id (fun h => h ▸ hK), hb⟩
  have h5 : m / 512 % 16 = 0 ∨ m / 512 % 16 = 1 ∨ m / 512 % 16 = 2 ∨ m / 512 % 16 = 3 ∨ m / 512 % 16 = 4 ∨ 5 ≤ m / 512 % 16 := by omega
  rcases h5 with h | h | h | h | h | h
  · exact (baq_0 m w h0 h1 k K n u d _ rfl h HQ).mono fin
  · rcases h3 with hi | hi | hi
    · exact (baq_10 m w h0 h1 k K n u d _ rfl h hi HQ).mono fin
    · exact (baq_11 m w h0 h1 k K n u d _ rfl h hi HQ).mono fin
    · exact (baq_12 m w h0 h1 k K n u d _ rfl h hi HQ).mono fin
  · exact (baq_2 m w h0 h1 k K n u d _ rfl h HQ).mono fin
  · exact (baq_3 m w h0 h1 k K n u d _ rfl h HQ).mono fin
  · exact (baq_4 m w h0 h1 k K n u d _ rfl h HQ).mono fin
  · exact (baq_9 m w h0 h1 k K n u d _ rfl h HQ).mono fin
end Go.Proofs.YtjibbnknliamkaaGreatDoor
