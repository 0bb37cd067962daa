/- The contract of sketchstorebase.Item. -/
import Derived.Test.YtdifilhfmbpalaaDoorKeyS
import Derived.Test.YtdifilhfmbpalaaDoorBel
import Derived.Test.YtdifilhfmbpalaaDoorItem
namespace Go.Proofs.YtdifilhfmbpalaaDoor
open Go.RowKit
set_option linter.unusedVariables false
set_option linter.unusedSimpArgs false
/-- The weight of the item of a number. -/
def wtS (n : Int) : Int := if n / 4096 % 16 = 14 then 1 + n % 65536 * 65537 % 4294967295 else if n / 4096 % 16 = 15 then 4294967295 - n % 4 else 1 + n / 16 % 8
theorem wtS_bd (n : Int) : 1 ≤ wtS n ∧ wtS n ≤ 4294967295 := by
  unfold wtS
  split
  · omega
  · split <;> omega
theorem itemS (n : Int) : itemE (byt (keyS n)) (wtS n) = 0 := by
  have hk := keyS_bd n
  have hw := wtS_bd n
  have : keyB (byt (keyS n)) = true := by unfold keyB; rw [byt_len]; simp; omega
  unfold itemE
  rw [this, if_neg (by simp), if_neg (by omega)]
theorem mask2 (n : Int) : bits .and .i64 n 3 = n % 4 := i64_mask 2 (by decide) n
theorem mask3 (n : Int) : bits .and .i64 n 7 = n % 8 := i64_mask 3 (by decide) n
theorem mask16 (n : Int) : bits .and .i64 n 65535 = n % 65536 := i64_mask 16 (by decide) n
set_option maxRecDepth 100000 in
set_option maxHeartbeats 1000000 in
theorem bitem_any (n : Int) (w : World) (n0 : -9223372036854775808 ≤ n) (n1 : n ≤ 9223372036854775807) :
    Calls Tryd.prog 14 #[.int .i64 n] w fun e w' => e = .returned (.agg #[.string (keyS n), .int .i64 (wtS n)]) ∧ Below w.heap.size w w' := by
  have hk := fun w => key_any n w n0 n1
  have m1 := mask3 (n / 16)
  have m2 := mask4 (n / 4096)
  have m3 := mask16 n
  have m4 := mask2 n
  generalize keyS n = K at *
  unfold wtS
  have e0 : 0 ≤ n / 16 % 8 := by omega
  have e1 : n / 16 % 8 ≤ 7 := by omega
  have e2 : 0 ≤ n / 4096 % 16 := by omega
  have e3 : n / 4096 % 16 ≤ 15 := by omega
  have e4 : 0 ≤ n % 65536 := by omega
  have e5 : n % 65536 ≤ 65535 := by omega
  have e6 : 0 ≤ n % 4 := by omega
  have e7 : n % 4 ≤ 3 := by omega
  generalize n / 4096 % 16 = q at *
  generalize n / 16 % 8 = p at *
  generalize n % 65536 = r at *
  generalize n % 4 = s at *
  by_cases h14 : q = 14
  · subst h14
    rw [if_pos rfl]
    have e8 : 0 ≤ r * 65537 % 4294967295 := by omega
    have e9 : r * 65537 % 4294967295 ≤ 4294967294 := by omega
    go_enter Tryd.func14, Tryd.ntmps14
    go_wp2_with (go_at_call 25; refine (hk _).mono ?_; rintro e w2 ⟨rfl, hb2⟩; have B2 := bgo (b1 _) hb2; obtain ⟨hc2, hf2⟩ := bcell hb2; have hz2 : w.heap.size < w2.heap.size := (by have := hb2.size; simp at this; omega); clear hb2)
    refine bodyPost_ret (v := .agg #[.string K, .int .i64 (1 + r * 65537 % 4294967295)]) (by simp [results, Tryd.results14, go_sem, *]) rfl ⟨rfl, ?_⟩
    exact bset (bset B2 _ _ _ (by omega)) _ _ _ (by omega)
  · rw [if_neg h14]
    have g14 : (q == 14) = false := by simp [h14]
    by_cases h15 : q = 15
    · subst h15
      rw [if_pos rfl]
      go_enter Tryd.func14, Tryd.ntmps14
      go_wp2_with (go_at_call 25; refine (hk _).mono ?_; rintro e w2 ⟨rfl, hb2⟩; have B2 := bgo (b1 _) hb2; obtain ⟨hc2, hf2⟩ := bcell hb2; have hz2 : w.heap.size < w2.heap.size := (by have := hb2.size; simp at this; omega); clear hb2)
      refine bodyPost_ret (v := .agg #[.string K, .int .i64 (4294967295 - s)]) (by simp [results, Tryd.results14, go_sem, *]) rfl ⟨rfl, ?_⟩
      exact bset (bset B2 _ _ _ (by omega)) _ _ _ (by omega)
    · rw [if_neg h15]
      have g15 : (q == 15) = false := by simp [h15]
      go_enter Tryd.func14, Tryd.ntmps14
      go_wp2_with (go_at_call 25; refine (hk _).mono ?_; rintro e w2 ⟨rfl, hb2⟩; have B2 := bgo (b1 _) hb2; obtain ⟨hc2, hf2⟩ := bcell hb2; have hz2 : w.heap.size < w2.heap.size := (by have := hb2.size; simp at this; omega); clear hb2)
      refine bodyPost_ret (v := .agg #[.string K, .int .i64 (1 + p)]) (by simp [results, Tryd.results14, go_sem, *]) rfl ⟨rfl, ?_⟩
      exact bset (bset B2 _ _ _ (by omega)) _ _ _ (by omega)
end Go.Proofs.YtdifilhfmbpalaaDoor
