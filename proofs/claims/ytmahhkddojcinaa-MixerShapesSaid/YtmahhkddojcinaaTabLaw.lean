/- The walk of the law MixerTables. -/
import Derived.Test.YtmahhkddojcinaaMixLaws
import Derived.Deep.QuietTactic
import Derived.BigQuiet
namespace Go.Proofs.Ytmahhkddojcinaa
open Go.RowKit
set_option linter.unusedVariables false
set_option linter.unusedSimpArgs false
theorem below_drewN {B : Nat} {a w : World} (h : Below B a w) (n : Nat) : Below B a (w.drewN n) := ⟨h.os, h.tape, h.output, h.size, h.block⟩
/-- A table, looked at. -/
def TabIn (L : List Int) (v : Value) (w : World) : Prop := ∃ g cap, v = .slice (some ⟨g, 0, none⟩) 256 cap ∧ g < w.heap.size ∧ ∀ j, j < 256 → w.cell? ⟨g, j, none⟩ = some (.int .u64 (L.getD j 0))
theorem tabIn_of {B : Nat} {seed : Int} {v : Value} {w : World} (h : Words B (tab seed 256) v w) : TabIn (tab seed 256) v w := by
  obtain ⟨g, cap, rfl, hB, hlt, hc⟩ := words_at h (tab_ne seed)
  rw [tab_len] at hc
  exact ⟨g, cap, by rw [tab_len], hlt, hc⟩
theorem TabIn.below {L : List Int} {v : Value} {w w' : World} (h : TabIn L v w) (hb : Below w.heap.size w w') : TabIn L v w' := by
  obtain ⟨g, cap, rfl, hlt, hc⟩ := h
  exact ⟨g, cap, rfl, Nat.lt_of_lt_of_le hlt hb.size, fun j hj => (hb.cell (p := ⟨g, j, none⟩) hlt).trans (hc j hj)⟩
/-- Two tables, made one after the other. -/
theorem two_tables (L M : List Int) {v u : Value} {W w1 w2 : World} (hv : TabIn L v w1) (hu : TabIn M u w2) (h1 : Below W.heap.size W w1) (h2 : Below w1.heap.size w1 w2) :
    ∃ g cap g' cap', v = .slice (some ⟨g, 0, none⟩) 256 cap ∧ u = .slice (some ⟨g', 0, none⟩) 256 cap' ∧ Below W.heap.size W w2 ∧ (∀ j, j < 256 → w2.cell? ⟨g, j, none⟩ = some (.int .u64 (L.getD j 0))) ∧ ∀ j, j < 256 → w2.cell? ⟨g', j, none⟩ = some (.int .u64 (M.getD j 0)) := by
  obtain ⟨g, cap, rfl, _, hc⟩ := hv.below h2
  obtain ⟨g', cap', rfl, _, hc'⟩ := hu
  exact ⟨g, cap, g', cap', rfl, rfl, h1.trans (h2.mono h1.size), hc, hc'⟩
theorem t_tab (seed : Int) (w : World) (h0 : 0 ≤ seed) (h1 : seed ≤ 18446744073709551615) :
    Calls Try.prog 13 #[.int .u64 seed] w fun e w' => ∃ v, e = .returned v ∧ TabIn (tab seed 256) v w' ∧ Below w.heap.size w w' :=
  (table_any seed w h0 h1).mono fun e w' ⟨v, he, hv, hb⟩ => ⟨v, he, tabIn_of hv, hb⟩
theorem t_rtab (seed : Int) (w : World) (h0 : 0 ≤ seed) (h1 : seed ≤ 18446744073709551615) :
    Calls Try.prog 14 #[.int .u64 seed] w fun e w' => ∃ v, e = .returned v ∧ TabIn (tab seed 256) v w' ∧ Below w.heap.size w w' :=
  (rtable_any seed w h0 h1).mono fun e w' ⟨v, he, hv, hb⟩ => ⟨v, he, tabIn_of hv, hb⟩
set_option maxRecDepth 100000 in
set_option maxHeartbeats 1000000 in
theorem mixerTables_walk (x : Int) (W : World) (w0 : (Lit.int .u64 x).wf = true) :
    Calls Try.prog 4 #[.int .u64 x] W fun e w' => e = .returned (.bool true) ∧ Below W.heap.size W w' := by
  have b0 := wf_bdu w0
  have hA := fun w => t_tab x w b0.1 b0.2
  have hB := fun w => t_rtab x w b0.1 b0.2
  generalize tab x 256 = L at *
  clear w0 b0
  go_enter Try.func4, Try.ntmps4
  go_wp2_with (first
    | (go_at_call 13; refine (hA _).mono ?_; rintro e w1 ⟨v, rfl, hv, hb1⟩)
    | (go_at_call 14; refine (hB _).mono ?_; rintro e w2 ⟨u, rfl, hu, hb2⟩; obtain ⟨g, cap, g', cap', rfl, rfl, hb, hc, hc'⟩ := two_tables _ _ hv hu hb1 hb2; clear hA hB hv hu hb1 hb2))
  go_loopw [5] (fun i wr => ∃ k n : Nat, k ≤ 256 ∧ i = .int .i64 (k : Int) ∧ wr = w2.drewN n) (fun i _ => 256 - (intOf i).toNat)
  case atStart => exact ⟨0, 0, by omega, rfl, rfl⟩
  case round =>
    obtain ⟨k, n, hk, rfl, rfl⟩ := hrel
    by_cases hlt : k < 256
    · have h1 := hc k hlt
      have h2 := hc' k hlt
      clear hc hc' hb
      generalize L.getD k 0 = t at *
      go_wp2_with fail
      go_quiet (fail)
      go_wp2
      go_roundw
      case rel => exact ⟨k + 1, _, by omega, by go_num, rfl⟩
      case measure => simp [intOf]; omega
    · obtain rfl : k = 256 := by omega
      have hb := below_drewN hb n
      clear hc hc'
      go_wp2_with (go_at_call 12; refine (known_any _).mono ?_; rintro e w' ⟨rfl, hb3⟩)
      go_ret
      exact ⟨rfl, hb.trans (hb3.mono hb.size)⟩
end Go.Proofs.Ytmahhkddojcinaa
