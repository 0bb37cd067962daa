/- The contract of sketchstorelaw2.known: the chapter's examples come out as the chapter says. -/
import Derived.Test.YtmahhkddojcinaaTabs
import Derived.Test.YtmahhkddojcinaaHash
namespace Go.Proofs.Ytmahhkddojcinaa
open Go.RowKit
set_option linter.unusedVariables false
set_option linter.unusedSimpArgs false
/-- What is owned, looked at. -/
theorem words_at {B : Nat} {L : List Int} {v : Value} {w : World} (h : Words B L v w) (hL : L ≠ []) :
    ∃ g cap, v = .slice (some ⟨g, 0, none⟩) L.length cap ∧ B ≤ g ∧ g < w.heap.size ∧ ∀ j, j < L.length → w.cell? ⟨g, j, none⟩ = some (.int .u64 (L.getD j 0)) := by
  have hl := World.ownsRow.lt h
  have hk : ∀ j, j < L.length → (L.map fun n : Int => Value.int .u64 n)[j]? = some (.int .u64 (L.getD j 0)) := fun j hj => by simp [List.getD, hj]
  rcases h.2 with ⟨_, hn⟩ | ⟨g, cap, cur, rfl, hb, _⟩
  · exact absurd (List.eq_nil_of_length_eq_zero hn) hL
  · exact ⟨g, cap, rfl, hb, (hl g rfl).2, fun j hj => (World.ownsRow.cellAt h j (by omega)).trans (hk j hj)⟩
theorem hash_empty (L : List Int) : hashI L ⟨#[]⟩ = mixI (L.getD 0 0) := rfl
theorem tab_ne (seed : Int) : tab seed 256 ≠ [] := fun h => by
  have := tab_len seed 256
  rw [h] at this
  cases this
/-- The table of seed 0, its first word under a name. -/
theorem k_table (w : World) : Calls Try.prog 13 #[.int .u64 0] w fun e w' => ∃ g cap : Nat, ∃ t m : Int, e = .returned (.slice (some ⟨g, 0, none⟩) 256 cap) ∧ w'.cell? ⟨g, 0, none⟩ = some (.int .u64 t) ∧ Below w.heap.size w w' ∧
    (Calls Try.prog 15 #[.slice (some ⟨g, 0, none⟩) 256 cap, .string ⟨#[]⟩] w' fun e w'' => e = .returned (.tuple #[.int .u64 m, .int .i64 0]) ∧ w' = w'') ∧ ∀ w, Calls Try.prog 8 #[.int .u64 t] w fun e w' => e = .returned (.int .u64 m) ∧ w = w' := by
  refine (table_any 0 w (by decide) (by decide)).mono ?_
  rintro e w' ⟨v, rfl, hv, hb⟩
  obtain ⟨g, cap, rfl, hB, hlt, hc⟩ := words_at hv (tab_ne 0)
  rw [tab_len] at hc ⊢
  have h := hash_any (tab 0 256) ⟨#[]⟩ g 0 cap w' (by decide) (fun j hj => by rw [Nat.zero_add]; exact hc j hj)
  rw [hash_empty] at h
  exact ⟨g, cap, _, _, rfl, hc 0 (by decide), hb, h, fun w => mix_any _ w⟩
theorem k_off (w : World) : Calls Try.prog 15 #[.slice none 0 0, .string ⟨#[97]⟩] w fun e w' => e = .returned (.tuple #[.int .u64 0, .int .i64 18]) ∧ w = w' := hash_off none 0 0 _ w (by decide) (by decide)
theorem k_one (w : World) : Calls Try.prog 8 #[.int .u64 1] w fun e w' => ∃ m : Int, e = .returned (.int .u64 m) ∧ (m != 0) = true ∧ w = w' := by
  refine (mix_any 1 w).mono ?_
  rintro e w' ⟨rfl, rfl⟩
  exact ⟨_, rfl, by decide +kernel, rfl⟩
theorem k_zero (w : World) : Calls Try.prog 8 #[.int .u64 0] w fun e w' => e = .returned (.int .u64 0) ∧ w = w' := by
  have h := mix_any 0 w
  rw [mixI_zero] at h
  exact h
set_option maxRecDepth 100000 in
set_option maxHeartbeats 1000000 in
theorem known_any (w : World) : Calls Try.prog 12 #[] w fun e w' => e = .returned (.bool true) ∧ Below w.heap.size w w' := by
  go_enter Try.func12, Try.ntmps12
  go_wp2_with (first
    | (go_at_call 13; refine (k_table _).mono ?_; rintro e w1 ⟨g, cap, t, m, rfl, hc, hb, hh, hm⟩)
    | (go_at_call 15; first
        | (refine hh.mono ?_; rintro e w' ⟨rfl, rfl⟩; clear hh)
        | (refine (k_off _).mono ?_; rintro e w' ⟨rfl, rfl⟩))
    | (go_at_call 8; first
        | ((with_reducible refine (hm _).mono ?_); rintro e w' ⟨rfl, rfl⟩)
        | ((with_reducible refine (k_one _).mono ?_); rintro e w' ⟨m1, rfl, h1, rfl⟩)
        | ((with_reducible refine (k_zero _).mono ?_); rintro e w' ⟨rfl, rfl⟩)))
  go_ret
  exact ⟨rfl, hb⟩
end Go.Proofs.Ytmahhkddojcinaa
