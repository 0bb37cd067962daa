/- The contract of slices.SortFunc at any slice of the call's own with no more than 12 entries, nil too. -/
import Derived.Test.YtcmekpdgikploaaSrtF
namespace Go.Proofs.Ytcmekpdgikploaa
open Go.RowKit
set_option linter.unusedVariables false
set_option linter.unusedSimpArgs false
set_option maxRecDepth 100000 in
set_option maxHeartbeats 4000000 in
theorem isort0_any (cap : Nat) (w : World) :
    Calls Try.prog 78 #[.slice none 0 cap, .int .i64 0, .int .i64 0, .func (.func 35) #[] #[]] w fun e w' => e = .returned (.tuple #[]) ∧ w = w' := by
  go_enter Try.func78, Try.ntmps78
  go_wp2
  go_loopw [8] (fun i wr => i = .int .i64 1 ∧ wr = w) (fun _ _ => 0)
  case atStart => exact ⟨by go_num, rfl⟩
  case round =>
    obtain ⟨rfl, rfl⟩ := hrel
    go_wp2
    go_end0
    exact ⟨rfl, rfl⟩
set_option maxRecDepth 100000 in
set_option maxHeartbeats 4000000 in
theorem pdq0_any (cap : Nat) (l : Int) (w : World) :
    Calls Try.prog 63 #[.slice none 0 cap, .int .i64 0, .int .i64 0, .int .i64 l, .func (.func 35) #[] #[]] w fun e w' => e = .returned (.tuple #[]) ∧ w = w' := by
  have hc := fun w => isort0_any cap w
  go_enter Try.func63, Try.ntmps63
  go_wp2
  go_loopw [1, 2, 3, 10, 11, 12] (fun a b _ _ _ _ wr => a = .int .i64 0 ∧ b = .int .i64 0 ∧ wr = w) (fun _ _ _ _ _ _ _ => 0)
  case atStart => exact ⟨rfl, rfl, rfl⟩
  case round =>
    obtain ⟨rfl, rfl, rfl⟩ := hrel
    go_wp2_with (go_at_call 78; refine (hc _).mono ?_; rintro e w' ⟨rfl, rfl⟩)
    exact bodyPost_ret (v := .tuple #[]) (by simp [results, Try.results63, go_sem]) rfl ⟨rfl, rfl⟩
set_option maxRecDepth 100000 in
theorem sort0_any (cap : Nat) (w : World) :
    Calls Try.prog 34 #[.slice none 0 cap, .func (.func 35) #[] #[]] w fun e w' => e = .returned (.tuple #[]) ∧ w = w' := by
  have hc := fun l w => pdq0_any cap l w
  have hl := fun w => len_any 0 w (by omega) (by omega)
  go_enter Try.func34, Try.ntmps34
  go_wp2_with (first
    | (go_at_call 64; refine (hl _).mono ?_; rintro e w' ⟨⟨l, rfl⟩, rfl⟩)
    | (go_at_call 63; refine (hc _ _).mono ?_; rintro e w' ⟨rfl, rfl⟩))
  go_end0
  exact ⟨rfl, rfl⟩
theorem sortV_any (L : List Ent) (B : Nat) (a : Option Addr) (n cap : Nat) (w : World) (hO : OwnE B L (.slice a n cap) w) (hn : L.length ≤ 12) (hB : B ≤ w.heap.size) :
    Calls Try.prog 34 #[.slice a n cap, .func (.func 35) #[] #[]] w fun e w' =>
      e = .returned (.tuple #[]) ∧ OwnE B (sortE L) (.slice a n cap) w' ∧ Below B w w' := by
  have h := hO
  obtain ⟨hy, h1, h2⟩ := hO
  rcases h2 with ⟨he, hl⟩ | ⟨g, cap', cur, he, hb, hg, r⟩
  · simp only [Value.slice.injEq] at he
    obtain ⟨rfl, rfl, rfl⟩ := he
    obtain rfl := List.eq_nil_of_length_eq_zero hl
    refine (sort0_any 0 w).mono ?_
    rintro e w' ⟨rfl, rfl⟩
    exact ⟨rfl, h, Below.refl _ _⟩
  · simp only [Value.slice.injEq] at he
    obtain ⟨rfl, rfl, rfl⟩ := he
    exact sortF_any L B g cap w h hn hB
end Go.Proofs.Ytcmekpdgikploaa
