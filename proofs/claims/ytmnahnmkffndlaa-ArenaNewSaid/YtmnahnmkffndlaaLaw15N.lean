/- The walks of ArenaNew and ArenaCounts. -/
import Derived.Test.YtmnahnmkffndlaaKn15
namespace Go.Proofs.Ytmnahnmkffndlaa
open Go.RowKit Go.Maps
set_option linter.unusedVariables false
set_option linter.unusedSimpArgs false
set_option maxRecDepth 100000 in
set_option maxHeartbeats 1000000 in
theorem new15_0k (c n : Int) (w : World) (hj : bits .and .i64 n 3 = 0) (c0 : 0 ≤ c) (c1 : c ≤ 16384) :
    Calls Try.prog 4 #[.int .i64 c, .int .i64 n] w fun e w' => e = .returned (.bool true) ∧ Below w.heap.size w w' := by
  have B0 := Lib.hid (Go.Proofs.Ytmnahnmkffndlaa.b1 (a := w) (.cells #[.int .i64 (-1), .int .i64 0, .int .i64 16384, .int .i64 16385] 3))
  have hA := fun W1 : World => (arNew_any c W1 c0 c1)
  have hB := fun w2 : World => (arBad_any (-1) w2 (by decide) (by decide) (by decide))
  go_enter Try.func4, Try.ntmps4
  go_wp2_with (first
    | (go_at_call 7; refine (hA _).mono ?_; rintro e w2 ⟨rfl, -, b2', -⟩; have B2 := Lib.hid (bgo B0.out b2'); clear b2' B0; clear hA)
    | (go_at_call 7; refine (hB _).mono ?_; rintro e w3 ⟨rfl, rfl⟩; have B3 := B2; clear B2; clear hB)
    | (go_at_call 20; refine (known15_any _).mono ?_; rintro e w4 ⟨rfl, b4'⟩; have B4 := Lib.hid (bgo B3.out b4'); clear b4'))
  go_ret
  exact ⟨(by first | rfl | exact ret_bool (by simp; omega)), B4.out⟩
set_option maxRecDepth 100000 in
set_option maxHeartbeats 1000000 in
theorem new15_0a (c n : Int) (w : World) (hj : bits .and .i64 n 3 = 0) (c0 : -9223372036854775808 ≤ c) (c1 : c ≤ 9223372036854775807) (hb : c < 0) :
    Calls Try.prog 4 #[.int .i64 c, .int .i64 n] w fun e w' => e = .returned (.bool true) ∧ Below w.heap.size w w' := by
  have B0 := Lib.hid (Go.Proofs.Ytmnahnmkffndlaa.b1 (a := w) (.cells #[.int .i64 (-1), .int .i64 0, .int .i64 16384, .int .i64 16385] 3))
  have hA := fun W1 : World => (arBad_any c W1 c0 c1 (by omega))
  have hB := fun w2 : World => (arBad_any (-1) w2 (by decide) (by decide) (by decide))
  go_enter Try.func4, Try.ntmps4
  go_wp2_with (first
    | (go_at_call 7; refine (hA _).mono ?_; rintro e w2 ⟨rfl, rfl⟩; have B2 := B0; clear B0; clear hA)
    | (go_at_call 7; refine (hB _).mono ?_; rintro e w3 ⟨rfl, rfl⟩; have B3 := B2; clear B2; clear hB)
    | (go_at_call 20; refine (known15_any _).mono ?_; rintro e w4 ⟨rfl, b4'⟩; have B4 := Lib.hid (bgo B3.out b4'); clear b4'))
  go_ret
  exact ⟨(by first | rfl | exact ret_bool (by simp; omega)), B4.out⟩
set_option maxRecDepth 100000 in
set_option maxHeartbeats 1000000 in
theorem new15_0b (c n : Int) (w : World) (hj : bits .and .i64 n 3 = 0) (c0 : -9223372036854775808 ≤ c) (c1 : c ≤ 9223372036854775807) (hb : 16384 < c) :
    Calls Try.prog 4 #[.int .i64 c, .int .i64 n] w fun e w' => e = .returned (.bool true) ∧ Below w.heap.size w w' := by
  have B0 := Lib.hid (Go.Proofs.Ytmnahnmkffndlaa.b1 (a := w) (.cells #[.int .i64 (-1), .int .i64 0, .int .i64 16384, .int .i64 16385] 3))
  have hA := fun W1 : World => (arBad_any c W1 c0 c1 (by omega))
  have h5 : 0 ≤ c := by omega
  have h6 : ¬ c ≤ 16384 := by omega
  have hB := fun w2 : World => (arBad_any (-1) w2 (by decide) (by decide) (by decide))
  go_enter Try.func4, Try.ntmps4
  go_wp2_with (first
    | (go_at_call 7; refine (hA _).mono ?_; rintro e w2 ⟨rfl, rfl⟩; have B2 := B0; clear B0; clear hA)
    | (go_at_call 7; refine (hB _).mono ?_; rintro e w3 ⟨rfl, rfl⟩; have B3 := B2; clear B2; clear hB)
    | (go_at_call 20; refine (known15_any _).mono ?_; rintro e w4 ⟨rfl, b4'⟩; have B4 := Lib.hid (bgo B3.out b4'); clear b4'))
  go_ret
  exact ⟨(by first | rfl | exact ret_bool (by simp; omega)), B4.out⟩
set_option maxRecDepth 100000 in
set_option maxHeartbeats 1000000 in
theorem new15_1k (c n : Int) (w : World) (hj : bits .and .i64 n 3 = 1) (c0 : 0 ≤ c) (c1 : c ≤ 16384) :
    Calls Try.prog 4 #[.int .i64 c, .int .i64 n] w fun e w' => e = .returned (.bool true) ∧ Below w.heap.size w w' := by
  have B0 := Lib.hid (Go.Proofs.Ytmnahnmkffndlaa.b1 (a := w) (.cells #[.int .i64 (-1), .int .i64 0, .int .i64 16384, .int .i64 16385] 3))
  have hA := fun W1 : World => (arNew_any c W1 c0 c1)
  have hB := fun w2 : World => (arNew_any (0) w2 (by decide) (by decide))
  go_enter Try.func4, Try.ntmps4
  go_wp2_with (first
    | (go_at_call 7; refine (hA _).mono ?_; rintro e w2 ⟨rfl, -, b2', -⟩; have B2 := Lib.hid (bgo B0.out b2'); clear b2' B0; clear hA)
    | (go_at_call 7; refine (hB _).mono ?_; rintro e w3 ⟨rfl, -, b3', -⟩; have B3 := Lib.hid (bgo B2.out b3'); clear b3' B2; clear hB)
    | (go_at_call 20; refine (known15_any _).mono ?_; rintro e w4 ⟨rfl, b4'⟩; have B4 := Lib.hid (bgo B3.out b4'); clear b4'))
  go_ret
  exact ⟨(by first | rfl | exact ret_bool (by simp; omega)), B4.out⟩
set_option maxRecDepth 100000 in
set_option maxHeartbeats 1000000 in
theorem new15_1a (c n : Int) (w : World) (hj : bits .and .i64 n 3 = 1) (c0 : -9223372036854775808 ≤ c) (c1 : c ≤ 9223372036854775807) (hb : c < 0) :
    Calls Try.prog 4 #[.int .i64 c, .int .i64 n] w fun e w' => e = .returned (.bool true) ∧ Below w.heap.size w w' := by
  have B0 := Lib.hid (Go.Proofs.Ytmnahnmkffndlaa.b1 (a := w) (.cells #[.int .i64 (-1), .int .i64 0, .int .i64 16384, .int .i64 16385] 3))
  have hA := fun W1 : World => (arBad_any c W1 c0 c1 (by omega))
  have hB := fun w2 : World => (arNew_any (0) w2 (by decide) (by decide))
  go_enter Try.func4, Try.ntmps4
  go_wp2_with (first
    | (go_at_call 7; refine (hA _).mono ?_; rintro e w2 ⟨rfl, rfl⟩; have B2 := B0; clear B0; clear hA)
    | (go_at_call 7; refine (hB _).mono ?_; rintro e w3 ⟨rfl, -, b3', -⟩; have B3 := Lib.hid (bgo B2.out b3'); clear b3' B2; clear hB)
    | (go_at_call 20; refine (known15_any _).mono ?_; rintro e w4 ⟨rfl, b4'⟩; have B4 := Lib.hid (bgo B3.out b4'); clear b4'))
  go_ret
  exact ⟨(by first | rfl | exact ret_bool (by simp; omega)), B4.out⟩
set_option maxRecDepth 100000 in
set_option maxHeartbeats 1000000 in
theorem new15_1b (c n : Int) (w : World) (hj : bits .and .i64 n 3 = 1) (c0 : -9223372036854775808 ≤ c) (c1 : c ≤ 9223372036854775807) (hb : 16384 < c) :
    Calls Try.prog 4 #[.int .i64 c, .int .i64 n] w fun e w' => e = .returned (.bool true) ∧ Below w.heap.size w w' := by
  have B0 := Lib.hid (Go.Proofs.Ytmnahnmkffndlaa.b1 (a := w) (.cells #[.int .i64 (-1), .int .i64 0, .int .i64 16384, .int .i64 16385] 3))
  have hA := fun W1 : World => (arBad_any c W1 c0 c1 (by omega))
  have h5 : 0 ≤ c := by omega
  have h6 : ¬ c ≤ 16384 := by omega
  have hB := fun w2 : World => (arNew_any (0) w2 (by decide) (by decide))
  go_enter Try.func4, Try.ntmps4
  go_wp2_with (first
    | (go_at_call 7; refine (hA _).mono ?_; rintro e w2 ⟨rfl, rfl⟩; have B2 := B0; clear B0; clear hA)
    | (go_at_call 7; refine (hB _).mono ?_; rintro e w3 ⟨rfl, -, b3', -⟩; have B3 := Lib.hid (bgo B2.out b3'); clear b3' B2; clear hB)
    | (go_at_call 20; refine (known15_any _).mono ?_; rintro e w4 ⟨rfl, b4'⟩; have B4 := Lib.hid (bgo B3.out b4'); clear b4'))
  go_ret
  exact ⟨(by first | rfl | exact ret_bool (by simp; omega)), B4.out⟩
set_option maxRecDepth 100000 in
set_option maxHeartbeats 1000000 in
theorem new15_2k (c n : Int) (w : World) (hj : bits .and .i64 n 3 = 2) (c0 : 0 ≤ c) (c1 : c ≤ 16384) :
    Calls Try.prog 4 #[.int .i64 c, .int .i64 n] w fun e w' => e = .returned (.bool true) ∧ Below w.heap.size w w' := by
  have B0 := Lib.hid (Go.Proofs.Ytmnahnmkffndlaa.b1 (a := w) (.cells #[.int .i64 (-1), .int .i64 0, .int .i64 16384, .int .i64 16385] 3))
  have hA := fun W1 : World => (arNew_any c W1 c0 c1)
  have hB := fun w2 : World => (arNew_any (16384) w2 (by decide) (by decide))
  go_enter Try.func4, Try.ntmps4
  go_wp2_with (first
    | (go_at_call 7; refine (hA _).mono ?_; rintro e w2 ⟨rfl, -, b2', -⟩; have B2 := Lib.hid (bgo B0.out b2'); clear b2' B0; clear hA)
    | (go_at_call 7; refine (hB _).mono ?_; rintro e w3 ⟨rfl, -, b3', -⟩; have B3 := Lib.hid (bgo B2.out b3'); clear b3' B2; clear hB)
    | (go_at_call 20; refine (known15_any _).mono ?_; rintro e w4 ⟨rfl, b4'⟩; have B4 := Lib.hid (bgo B3.out b4'); clear b4'))
  go_ret
  exact ⟨(by first | rfl | exact ret_bool (by simp; omega)), B4.out⟩
set_option maxRecDepth 100000 in
set_option maxHeartbeats 1000000 in
theorem new15_2a (c n : Int) (w : World) (hj : bits .and .i64 n 3 = 2) (c0 : -9223372036854775808 ≤ c) (c1 : c ≤ 9223372036854775807) (hb : c < 0) :
    Calls Try.prog 4 #[.int .i64 c, .int .i64 n] w fun e w' => e = .returned (.bool true) ∧ Below w.heap.size w w' := by
  have B0 := Lib.hid (Go.Proofs.Ytmnahnmkffndlaa.b1 (a := w) (.cells #[.int .i64 (-1), .int .i64 0, .int .i64 16384, .int .i64 16385] 3))
  have hA := fun W1 : World => (arBad_any c W1 c0 c1 (by omega))
  have hB := fun w2 : World => (arNew_any (16384) w2 (by decide) (by decide))
  go_enter Try.func4, Try.ntmps4
  go_wp2_with (first
    | (go_at_call 7; refine (hA _).mono ?_; rintro e w2 ⟨rfl, rfl⟩; have B2 := B0; clear B0; clear hA)
    | (go_at_call 7; refine (hB _).mono ?_; rintro e w3 ⟨rfl, -, b3', -⟩; have B3 := Lib.hid (bgo B2.out b3'); clear b3' B2; clear hB)
    | (go_at_call 20; refine (known15_any _).mono ?_; rintro e w4 ⟨rfl, b4'⟩; have B4 := Lib.hid (bgo B3.out b4'); clear b4'))
  go_ret
  exact ⟨(by first | rfl | exact ret_bool (by simp; omega)), B4.out⟩
set_option maxRecDepth 100000 in
set_option maxHeartbeats 1000000 in
theorem new15_2b (c n : Int) (w : World) (hj : bits .and .i64 n 3 = 2) (c0 : -9223372036854775808 ≤ c) (c1 : c ≤ 9223372036854775807) (hb : 16384 < c) :
    Calls Try.prog 4 #[.int .i64 c, .int .i64 n] w fun e w' => e = .returned (.bool true) ∧ Below w.heap.size w w' := by
  have B0 := Lib.hid (Go.Proofs.Ytmnahnmkffndlaa.b1 (a := w) (.cells #[.int .i64 (-1), .int .i64 0, .int .i64 16384, .int .i64 16385] 3))
  have hA := fun W1 : World => (arBad_any c W1 c0 c1 (by omega))
  have h5 : 0 ≤ c := by omega
  have h6 : ¬ c ≤ 16384 := by omega
  have hB := fun w2 : World => (arNew_any (16384) w2 (by decide) (by decide))
  go_enter Try.func4, Try.ntmps4
  go_wp2_with (first
    | (go_at_call 7; refine (hA _).mono ?_; rintro e w2 ⟨rfl, rfl⟩; have B2 := B0; clear B0; clear hA)
    | (go_at_call 7; refine (hB _).mono ?_; rintro e w3 ⟨rfl, -, b3', -⟩; have B3 := Lib.hid (bgo B2.out b3'); clear b3' B2; clear hB)
    | (go_at_call 20; refine (known15_any _).mono ?_; rintro e w4 ⟨rfl, b4'⟩; have B4 := Lib.hid (bgo B3.out b4'); clear b4'))
  go_ret
  exact ⟨(by first | rfl | exact ret_bool (by simp; omega)), B4.out⟩
set_option maxRecDepth 100000 in
set_option maxHeartbeats 1000000 in
theorem new15_3k (c n : Int) (w : World) (hj : bits .and .i64 n 3 = 3) (c0 : 0 ≤ c) (c1 : c ≤ 16384) :
    Calls Try.prog 4 #[.int .i64 c, .int .i64 n] w fun e w' => e = .returned (.bool true) ∧ Below w.heap.size w w' := by
  have B0 := Lib.hid (Go.Proofs.Ytmnahnmkffndlaa.b1 (a := w) (.cells #[.int .i64 (-1), .int .i64 0, .int .i64 16384, .int .i64 16385] 3))
  have hA := fun W1 : World => (arNew_any c W1 c0 c1)
  have hB := fun w2 : World => (arBad_any (16385) w2 (by decide) (by decide) (by decide))
  go_enter Try.func4, Try.ntmps4
  go_wp2_with (first
    | (go_at_call 7; refine (hA _).mono ?_; rintro e w2 ⟨rfl, -, b2', -⟩; have B2 := Lib.hid (bgo B0.out b2'); clear b2' B0; clear hA)
    | (go_at_call 7; refine (hB _).mono ?_; rintro e w3 ⟨rfl, rfl⟩; have B3 := B2; clear B2; clear hB)
    | (go_at_call 20; refine (known15_any _).mono ?_; rintro e w4 ⟨rfl, b4'⟩; have B4 := Lib.hid (bgo B3.out b4'); clear b4'))
  go_ret
  exact ⟨(by first | rfl | exact ret_bool (by simp; omega)), B4.out⟩
set_option maxRecDepth 100000 in
set_option maxHeartbeats 1000000 in
theorem new15_3a (c n : Int) (w : World) (hj : bits .and .i64 n 3 = 3) (c0 : -9223372036854775808 ≤ c) (c1 : c ≤ 9223372036854775807) (hb : c < 0) :
    Calls Try.prog 4 #[.int .i64 c, .int .i64 n] w fun e w' => e = .returned (.bool true) ∧ Below w.heap.size w w' := by
  have B0 := Lib.hid (Go.Proofs.Ytmnahnmkffndlaa.b1 (a := w) (.cells #[.int .i64 (-1), .int .i64 0, .int .i64 16384, .int .i64 16385] 3))
  have hA := fun W1 : World => (arBad_any c W1 c0 c1 (by omega))
  have hB := fun w2 : World => (arBad_any (16385) w2 (by decide) (by decide) (by decide))
  go_enter Try.func4, Try.ntmps4
  go_wp2_with (first
    | (go_at_call 7; refine (hA _).mono ?_; rintro e w2 ⟨rfl, rfl⟩; have B2 := B0; clear B0; clear hA)
    | (go_at_call 7; refine (hB _).mono ?_; rintro e w3 ⟨rfl, rfl⟩; have B3 := B2; clear B2; clear hB)
    | (go_at_call 20; refine (known15_any _).mono ?_; rintro e w4 ⟨rfl, b4'⟩; have B4 := Lib.hid (bgo B3.out b4'); clear b4'))
  go_ret
  exact ⟨(by first | rfl | exact ret_bool (by simp; omega)), B4.out⟩
set_option maxRecDepth 100000 in
set_option maxHeartbeats 1000000 in
theorem new15_3b (c n : Int) (w : World) (hj : bits .and .i64 n 3 = 3) (c0 : -9223372036854775808 ≤ c) (c1 : c ≤ 9223372036854775807) (hb : 16384 < c) :
    Calls Try.prog 4 #[.int .i64 c, .int .i64 n] w fun e w' => e = .returned (.bool true) ∧ Below w.heap.size w w' := by
  have B0 := Lib.hid (Go.Proofs.Ytmnahnmkffndlaa.b1 (a := w) (.cells #[.int .i64 (-1), .int .i64 0, .int .i64 16384, .int .i64 16385] 3))
  have hA := fun W1 : World => (arBad_any c W1 c0 c1 (by omega))
  have h5 : 0 ≤ c := by omega
  have h6 : ¬ c ≤ 16384 := by omega
  have hB := fun w2 : World => (arBad_any (16385) w2 (by decide) (by decide) (by decide))
  go_enter Try.func4, Try.ntmps4
  go_wp2_with (first
    | (go_at_call 7; refine (hA _).mono ?_; rintro e w2 ⟨rfl, rfl⟩; have B2 := B0; clear B0; clear hA)
    | (go_at_call 7; refine (hB _).mono ?_; rintro e w3 ⟨rfl, rfl⟩; have B3 := B2; clear B2; clear hB)
    | (go_at_call 20; refine (known15_any _).mono ?_; rintro e w4 ⟨rfl, b4'⟩; have B4 := Lib.hid (bgo B3.out b4'); clear b4'))
  go_ret
  exact ⟨(by first | rfl | exact ret_bool (by simp; omega)), B4.out⟩
theorem mask2n (n : Int) : bits .and .i64 n 3 = n % 4 := i64_mask 2 (by decide) n
theorem mask4n (n : Int) : bits .and .i64 n 15 = n % 16 := i64_mask 4 (by decide) n
theorem arenaNew_walk (c n : Int) (w : World) (hc : (Lit.int .i64 c).wf = true) (hn : (Lit.int .i64 n).wf = true) :
    Calls Try.prog 4 #[.int .i64 c, .int .i64 n] w fun e w' => e = .returned (.bool true) ∧ Below w.heap.size w w' := by
  have h1 := mask2n n
  have h2 := wf_bd hc
  have h3 : n % 4 = 0 ∨ n % 4 = 1 ∨ n % 4 = 2 ∨ n % 4 = 3 := by omega
  have h4 : (0 ≤ c ∧ c ≤ 16384) ∨ c < 0 ∨ 16384 < c := by omega
  rcases h4 with h4 | h4 | h4
  · rcases h3 with h | h | h | h <;> rw [h] at h1
    · exact new15_0k c n w h1 h4.1 h4.2
    · exact new15_1k c n w h1 h4.1 h4.2
    · exact new15_2k c n w h1 h4.1 h4.2
    · exact new15_3k c n w h1 h4.1 h4.2
  · rcases h3 with h | h | h | h <;> rw [h] at h1
    · exact new15_0a c n w h1 h2.1 h2.2 h4
    · exact new15_1a c n w h1 h2.1 h2.2 h4
    · exact new15_2a c n w h1 h2.1 h2.2 h4
    · exact new15_3a c n w h1 h2.1 h2.2 h4
  · rcases h3 with h | h | h | h <;> rw [h] at h1
    · exact new15_0b c n w h1 h2.1 h2.2 h4
    · exact new15_1b c n w h1 h2.1 h2.2 h4
    · exact new15_2b c n w h1 h2.1 h2.2 h4
    · exact new15_3b c n w h1 h2.1 h2.2 h4
end Go.Proofs.Ytmnahnmkffndlaa
