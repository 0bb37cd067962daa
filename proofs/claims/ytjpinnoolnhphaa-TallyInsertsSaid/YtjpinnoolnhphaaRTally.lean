/- The contracts of the reference's tally but its codes. -/
import Derived.Test.YtjpinnoolnhphaaRefSat
import Derived.Test.YtjpinnoolnhphaaTally
namespace Go.Proofs.Ytjpinnoolnhphaa
open Go.RowKit
set_option linter.unusedVariables false
set_option linter.unusedSimpArgs false
theorem radd_count (a b : Int) (w : World) (a0 : -9223372036854775808 ≤ a) (a1 : a ≤ 9223372036854775807) (b0 : -9223372036854775808 ≤ b) (b1 : b ≤ 9223372036854775807) :
    Calls Try.prog 37 #[.int .i64 a, .int .i64 b, .int .i64 4294967295] w fun e w' => e = .returned (.tuple #[.int .i64 (sumT a b), .bool (sumF a b)]) ∧ w = w' :=
  ref_add_any a b 4294967295 w a0 a1 b0 b1 (by decide) (by decide)
/-- A number from l to h. -/
def inW (n l h : Int) : Bool := decide (l ≤ n) && decide (n ≤ h)
theorem rwithin_any (n l h : Int) (w : World) :
    Calls Try.prog 27 #[.int .i64 n, .int .i64 l, .int .i64 h] w fun e w' => e = .returned (.bool (inW n l h)) ∧ w = w' := by
  unfold inW
  go_enter Try.func27, Try.ntmps27
  go_wp2
  all_goals
    go_ret
    exact ⟨ret_bool (by simp [*] <;> omega), rfl⟩
theorem valT_in (T I : Int) : valT T I = if inW T 0 4294967295 = true ∧ inW I 0 4294967295 = true ∧ I ≤ T then 0 else 5 := by
  unfold valT inW
  by_cases h : 4294967295 < T ∨ I < 0 ∨ T < I
  · rw [if_pos h, if_neg (by simp; omega)]
  · rw [if_neg h, if_pos (by simp; omega)]
set_option maxHeartbeats 1000000 in
theorem rtval_any (T I : Int) (s : Bool) (w : World) (T0 : -9223372036854775808 ≤ T) (T1 : T ≤ 9223372036854775807) (I0 : -9223372036854775808 ≤ I) (I1 : I ≤ 9223372036854775807) :
    Calls Try.prog 13 #[.agg #[.int .i64 T, .int .i64 I, .bool s]] w fun e w' => e = .returned (.int .i64 (valT T I)) ∧ Below w.heap.size w w' := by
  rw [valT_in]
  have h1 := fun w => rwithin_any T 0 4294967295 w
  have h2 := fun w => rwithin_any I 0 4294967295 w
  generalize inW T 0 4294967295 = A at *
  generalize inW I 0 4294967295 = B at *
  cases A
  all_goals cases B
  all_goals
    go_enter Try.func13, Try.ntmps13
    go_wp2_with (first
      | (go_at_call 27; ((with_reducible refine (h1 _).mono ?_); rintro e w' ⟨rfl, rfl⟩))
      | (go_at_call 27; ((with_reducible refine (h2 _).mono ?_); rintro e w' ⟨rfl, rfl⟩)))
    all_goals
      go_ret
      exact ⟨ret_int (by first | rfl | (rename_i h; simp at h; done) | (simp [*] <;> omega)), b1 _⟩
set_option maxHeartbeats 1000000 in
theorem rtsum_any (T I U J : Int) (s r : Bool) (w : World) (T0 : -9223372036854775808 ≤ T) (T1 : T ≤ 9223372036854775807) (I0 : -9223372036854775808 ≤ I) (I1 : I ≤ 9223372036854775807)
    (U0 : -9223372036854775808 ≤ U) (U1 : U ≤ 9223372036854775807) (J0 : -9223372036854775808 ≤ J) (J1 : J ≤ 9223372036854775807) :
    Calls Try.prog 26 #[.agg #[.int .i64 T, .int .i64 I, .bool s], .agg #[.int .i64 U, .int .i64 J, .bool r]] w fun e w' => e = .returned (.agg #[.int .i64 (sumT T U), .int .i64 (sumT I J), .bool (s || r || sumF T U || sumF I J)]) ∧ Below w.heap.size w w' := by
  have h1 := fun w => radd_count T U w T0 T1 U0 U1
  have h2 := fun w => radd_count I J w I0 I1 J0 J1
  generalize sumT T U = A at *
  generalize sumT I J = B at *
  generalize sumF T U = F at *
  generalize sumF I J = G at *
  go_enter Try.func26, Try.ntmps26
  go_wp2_with (first
    | (go_at_call 37; ((with_reducible refine (h1 _).mono ?_); rintro e w' ⟨rfl, rfl⟩))
    | (go_at_call 37; ((with_reducible refine (h2 _).mono ?_); rintro e w' ⟨rfl, rfl⟩)))
  all_goals
    refine bodyPost_ret (v := .agg #[.int .i64 A, .int .i64 B, .bool (s || r || F || G)]) (by simp [results, Try.results26, go_sem, *]) rfl ⟨rfl, b3 _ _ _⟩
set_option maxRecDepth 100000 in
set_option maxHeartbeats 1000000 in
theorem rtins_any (T I x : Int) (s : Bool) (k : ByteArray) (w : World) (T0 : -9223372036854775808 ≤ T) (T1 : T ≤ 9223372036854775807) (I0 : -9223372036854775808 ≤ I) (I1 : I ≤ 9223372036854775807)
    (x0 : -9223372036854775808 ≤ x) (x1 : x ≤ 9223372036854775807) (hk : k.size ≤ maxLen) :
    Calls Try.prog 11 #[.agg #[.int .i64 T, .int .i64 I, .bool s], .agg #[.string k, .int .i64 x]] w fun e w' =>
      e = .returned (.tuple #[.agg #[.int .i64 (insT T I s (itemE (byt k) x) x).1, .int .i64 (insT T I s (itemE (byt k) x) x).2.1, .bool (insT T I s (itemE (byt k) x) x).2.2.1], .int .i64 (insT T I s (itemE (byt k) x) x).2.2.2]) ∧ Below w.heap.size w w' := by
  have h1 := fun w => rtval_any T I s w T0 T1 I0 I1
  have h2 := fun w => ritem_any k x w hk x0 x1
  have h3 := fun w => rtsum_any T I x 1 s false w T0 T1 I0 I1 x0 x1 (by decide) (by decide)
  unfold insT
  generalize valT T I = E at *
  generalize itemE (byt k) x = F at *
  generalize sumT T x = A at *
  generalize sumT I 1 = B at *
  generalize (s || false || sumF T x || sumF I 1) = G at *
  by_cases hE : E = 0
  · subst hE
    rw [if_neg (by decide)]
    by_cases hF : F = 0
    · subst hF
      rw [if_neg (by decide)]
      go_enter Try.func11, Try.ntmps11
      go_wp2_with (first
          | (go_at_call 13; ((with_reducible refine (h1 _).mono ?_); rintro e w2 ⟨rfl, hb2⟩; have B2 := bgo (b3 _ _ _) hb2; obtain ⟨hc2, hf2⟩ := bcell hb2; obtain ⟨hx2, hy2, hv2⟩ := room (n := w.heap.size) (m := w2.heap.size) (by have := hb2.size; simp at this; omega); clear hb2))
          | (go_at_call 25; ((with_reducible refine (h2 _).mono ?_); rintro e w3 ⟨rfl, hb3⟩; have B3 := bgo B2 hb3; obtain ⟨hc3, hf3⟩ := bcell hb3; obtain ⟨hx3, hy3, hv3⟩ := room (n := w.heap.size) (m := w3.heap.size) (by have := hb3.size; omega); clear hb3))
          | (go_at_call 26; ((with_reducible refine (h3 _).mono ?_); rintro e w4 ⟨rfl, hb4⟩; have B4 := bgo B3 hb4; obtain ⟨hc4, hf4⟩ := bcell hb4; obtain ⟨hx4, hy4, hv4⟩ := room (n := w.heap.size) (m := w4.heap.size) (by have := hb4.size; omega); clear hb4)))
      refine bodyPost_ret (v := .tuple #[.agg #[.int .i64 A, .int .i64 B, .bool G], .int .i64 0]) (by simp [results, Try.results11, go_sem, *]) rfl ⟨rfl, ?_⟩
      exact bset (bset (bset B4 _ _ _ (by omega)) _ _ _ (by omega)) _ _ _ (by omega)
    · have hF2 : (F != 0) = true := by simp [hF]
      rw [if_pos hF]
      clear hF
      go_enter Try.func11, Try.ntmps11
      go_wp2_with (first
          | (go_at_call 13; ((with_reducible refine (h1 _).mono ?_); rintro e w2 ⟨rfl, hb2⟩; have B2 := bgo (b3 _ _ _) hb2; obtain ⟨hc2, hf2⟩ := bcell hb2; obtain ⟨hx2, hy2, hv2⟩ := room (n := w.heap.size) (m := w2.heap.size) (by have := hb2.size; simp at this; omega); clear hb2))
          | (go_at_call 25; ((with_reducible refine (h2 _).mono ?_); rintro e w3 ⟨rfl, hb3⟩; have B3 := bgo B2 hb3; obtain ⟨hc3, hf3⟩ := bcell hb3; obtain ⟨hx3, hy3, hv3⟩ := room (n := w.heap.size) (m := w3.heap.size) (by have := hb3.size; omega); clear hb3))
          | (go_at_call 26; ((with_reducible refine (h3 _).mono ?_); rintro e w4 ⟨rfl, hb4⟩; have B4 := bgo B3 hb4; obtain ⟨hc4, hf4⟩ := bcell hb4; obtain ⟨hx4, hy4, hv4⟩ := room (n := w.heap.size) (m := w4.heap.size) (by have := hb4.size; omega); clear hb4)))
      refine bodyPost_ret (v := .tuple #[.agg #[.int .i64 0, .int .i64 0, .bool false], .int .i64 F]) (by simp [results, Try.results11, go_sem, *]) rfl ⟨rfl, ?_⟩
      exact bset (bset (bset B3 _ _ _ (by omega)) _ _ _ (by omega)) _ _ _ (by omega)
  · have hE2 : (E != 0) = true := by simp [hE]
    rw [if_pos hE]
    clear hE
    go_enter Try.func11, Try.ntmps11
    go_wp2_with (first
        | (go_at_call 13; ((with_reducible refine (h1 _).mono ?_); rintro e w2 ⟨rfl, hb2⟩; have B2 := bgo (b3 _ _ _) hb2; obtain ⟨hc2, hf2⟩ := bcell hb2; obtain ⟨hx2, hy2, hv2⟩ := room (n := w.heap.size) (m := w2.heap.size) (by have := hb2.size; simp at this; omega); clear hb2))
        | (go_at_call 25; ((with_reducible refine (h2 _).mono ?_); rintro e w3 ⟨rfl, hb3⟩; have B3 := bgo B2 hb3; obtain ⟨hc3, hf3⟩ := bcell hb3; obtain ⟨hx3, hy3, hv3⟩ := room (n := w.heap.size) (m := w3.heap.size) (by have := hb3.size; omega); clear hb3))
        | (go_at_call 26; ((with_reducible refine (h3 _).mono ?_); rintro e w4 ⟨rfl, hb4⟩; have B4 := bgo B3 hb4; obtain ⟨hc4, hf4⟩ := bcell hb4; obtain ⟨hx4, hy4, hv4⟩ := room (n := w.heap.size) (m := w4.heap.size) (by have := hb4.size; omega); clear hb4)))
    refine bodyPost_ret (v := .tuple #[.agg #[.int .i64 0, .int .i64 0, .bool false], .int .i64 E]) (by simp [results, Try.results11, go_sem, *]) rfl ⟨rfl, ?_⟩
    exact bset (bset (bset B2 _ _ _ (by omega)) _ _ _ (by omega)) _ _ _ (by omega)
set_option maxRecDepth 100000 in
set_option maxHeartbeats 1000000 in
theorem rtmer_any (T I U J : Int) (s r : Bool) (w : World) (T0 : -9223372036854775808 ≤ T) (T1 : T ≤ 9223372036854775807) (I0 : -9223372036854775808 ≤ I) (I1 : I ≤ 9223372036854775807)
    (U0 : -9223372036854775808 ≤ U) (U1 : U ≤ 9223372036854775807) (J0 : -9223372036854775808 ≤ J) (J1 : J ≤ 9223372036854775807) :
    Calls Try.prog 16 #[.agg #[.int .i64 T, .int .i64 I, .bool s], .agg #[.int .i64 U, .int .i64 J, .bool r]] w fun e w' =>
      e = .returned (.tuple #[.agg #[.int .i64 (merT T I s U J r).1, .int .i64 (merT T I s U J r).2.1, .bool (merT T I s U J r).2.2.1], .int .i64 (merT T I s U J r).2.2.2]) ∧ Below w.heap.size w w' := by
  have h1 := fun w => rtval_any T I s w T0 T1 I0 I1
  have h2 := fun w => rtval_any U J r w U0 U1 J0 J1
  have h3 := fun w => rtsum_any T I U J s r w T0 T1 I0 I1 U0 U1 J0 J1
  unfold merT
  generalize valT T I = E at *
  generalize valT U J = F at *
  generalize sumT T U = A at *
  generalize sumT I J = B at *
  generalize (s || r || sumF T U || sumF I J) = G at *
  by_cases hE : E = 0
  · subst hE
    rw [if_neg (by decide)]
    by_cases hF : F = 0
    · subst hF
      rw [if_neg (by decide)]
      go_enter Try.func16, Try.ntmps16
      go_wp2_with (first
          | (go_at_call 13; ((with_reducible refine (h1 _).mono ?_); rintro e w2 ⟨rfl, hb2⟩; have B2 := bgo (b3 _ _ _) hb2; obtain ⟨hc2, hf2⟩ := bcell hb2; obtain ⟨hx2, hy2, hv2⟩ := room (n := w.heap.size) (m := w2.heap.size) (by have := hb2.size; simp at this; omega); clear hb2))
          | (go_at_call 13; ((with_reducible refine (h2 _).mono ?_); rintro e w3 ⟨rfl, hb3⟩; have B3 := bgo B2 hb3; obtain ⟨hc3, hf3⟩ := bcell hb3; obtain ⟨hx3, hy3, hv3⟩ := room (n := w.heap.size) (m := w3.heap.size) (by have := hb3.size; omega); clear hb3))
          | (go_at_call 26; ((with_reducible refine (h3 _).mono ?_); rintro e w4 ⟨rfl, hb4⟩; have B4 := bgo B3 hb4; obtain ⟨hc4, hf4⟩ := bcell hb4; obtain ⟨hx4, hy4, hv4⟩ := room (n := w.heap.size) (m := w4.heap.size) (by have := hb4.size; omega); clear hb4)))
      refine bodyPost_ret (v := .tuple #[.agg #[.int .i64 A, .int .i64 B, .bool G], .int .i64 0]) (by simp [results, Try.results16, go_sem, *]) rfl ⟨rfl, ?_⟩
      exact bset (bset (bset B4 _ _ _ (by omega)) _ _ _ (by omega)) _ _ _ (by omega)
    · have hF2 : (F != 0) = true := by simp [hF]
      rw [if_pos hF]
      clear hF
      go_enter Try.func16, Try.ntmps16
      go_wp2_with (first
          | (go_at_call 13; ((with_reducible refine (h1 _).mono ?_); rintro e w2 ⟨rfl, hb2⟩; have B2 := bgo (b3 _ _ _) hb2; obtain ⟨hc2, hf2⟩ := bcell hb2; obtain ⟨hx2, hy2, hv2⟩ := room (n := w.heap.size) (m := w2.heap.size) (by have := hb2.size; simp at this; omega); clear hb2))
          | (go_at_call 13; ((with_reducible refine (h2 _).mono ?_); rintro e w3 ⟨rfl, hb3⟩; have B3 := bgo B2 hb3; obtain ⟨hc3, hf3⟩ := bcell hb3; obtain ⟨hx3, hy3, hv3⟩ := room (n := w.heap.size) (m := w3.heap.size) (by have := hb3.size; omega); clear hb3))
          | (go_at_call 26; ((with_reducible refine (h3 _).mono ?_); rintro e w4 ⟨rfl, hb4⟩; have B4 := bgo B3 hb4; obtain ⟨hc4, hf4⟩ := bcell hb4; obtain ⟨hx4, hy4, hv4⟩ := room (n := w.heap.size) (m := w4.heap.size) (by have := hb4.size; omega); clear hb4)))
      refine bodyPost_ret (v := .tuple #[.agg #[.int .i64 0, .int .i64 0, .bool false], .int .i64 F]) (by simp [results, Try.results16, go_sem, *]) rfl ⟨rfl, ?_⟩
      exact bset (bset (bset B3 _ _ _ (by omega)) _ _ _ (by omega)) _ _ _ (by omega)
  · have hE2 : (E != 0) = true := by simp [hE]
    rw [if_pos hE]
    clear hE
    go_enter Try.func16, Try.ntmps16
    go_wp2_with (first
        | (go_at_call 13; ((with_reducible refine (h1 _).mono ?_); rintro e w2 ⟨rfl, hb2⟩; have B2 := bgo (b3 _ _ _) hb2; obtain ⟨hc2, hf2⟩ := bcell hb2; obtain ⟨hx2, hy2, hv2⟩ := room (n := w.heap.size) (m := w2.heap.size) (by have := hb2.size; simp at this; omega); clear hb2))
        | (go_at_call 13; ((with_reducible refine (h2 _).mono ?_); rintro e w3 ⟨rfl, hb3⟩; have B3 := bgo B2 hb3; obtain ⟨hc3, hf3⟩ := bcell hb3; obtain ⟨hx3, hy3, hv3⟩ := room (n := w.heap.size) (m := w3.heap.size) (by have := hb3.size; omega); clear hb3))
        | (go_at_call 26; ((with_reducible refine (h3 _).mono ?_); rintro e w4 ⟨rfl, hb4⟩; have B4 := bgo B3 hb4; obtain ⟨hc4, hf4⟩ := bcell hb4; obtain ⟨hx4, hy4, hv4⟩ := room (n := w.heap.size) (m := w4.heap.size) (by have := hb4.size; omega); clear hb4)))
    refine bodyPost_ret (v := .tuple #[.agg #[.int .i64 0, .int .i64 0, .bool false], .int .i64 E]) (by simp [results, Try.results16, go_sem, *]) rfl ⟨rfl, ?_⟩
    exact bset (bset (bset B2 _ _ _ (by omega)) _ _ _ (by omega)) _ _ _ (by omega)
end Go.Proofs.Ytjpinnoolnhphaa
