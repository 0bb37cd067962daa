/- Tables of words, looked at; their hashes; numbers of hashes. -/
import Derived.Test.YtgnopnifdiipkaaDoorHashes
namespace Go.Proofs.YtgnopnifdiipkaaDoor
open Go.RowKit
set_option linter.unusedVariables false
set_option linter.unusedSimpArgs false
/-- A table, looked at. -/
def TabIn (L : List Int) (v : Value) (w : World) : Prop := ∃ g cap, v = .slice (some ⟨g, 0, none⟩) 256 cap ∧ g < w.heap.size ∧ ∀ j, j < 256 → w.cell? ⟨g, j, none⟩ = some (.int .u64 (L.getD j 0))
theorem tabIn_of {B : Nat} {seed : Int} {v : Value} {w : World} (h : Words B (tab seed 256) v w) : TabIn (tab seed 256) v w := by
  unfold Words at h
  have h2 := h.2
  have hl := World.ownsRow.lt h
  rcases h2 with ⟨he, hn⟩ | ⟨g, cap, cur, rfl, hb, _⟩
  · rw [tab_len] at hn
    cases hn
  · refine ⟨g, cap, by rw [tab_len], (hl g rfl).2, fun j hj => ?_⟩
    have hc := World.ownsRow.cellAt h j (by simp [tab_len]; omega)
    rw [hc]
    simp [List.getD, tab_get seed 256 j hj]
theorem TabIn.below {L : List Int} {v : Value} {w w' : World} (h : TabIn L v w) (hb : Below w.heap.size w w') : TabIn L v w' := by
  obtain ⟨g, cap, rfl, hlt, hc⟩ := h
  exact ⟨g, cap, rfl, Nat.lt_of_lt_of_le hlt hb.size, fun j hj => (hb.cell (p := ⟨g, j, none⟩) hlt).trans (hc j hj)⟩
theorem t_tab (seed : Int) (w : World) (h0 : 0 ≤ seed) (h1 : seed ≤ 18446744073709551615) :
    Calls Tryd.prog 36 #[.int .u64 seed] w fun e w' => ∃ v, e = .returned v ∧ TabIn (tab seed 256) v w' ∧ Below w.heap.size w w' :=
  (table_any seed w h0 h1).mono fun e w' ⟨v, he, hv, hb⟩ => ⟨v, he, tabIn_of hv, hb⟩
theorem t_rtab (seed : Int) (w : World) (h0 : 0 ≤ seed) (h1 : seed ≤ 18446744073709551615) :
    Calls Tryd.prog 41 #[.int .u64 seed] w fun e w' => ∃ v, e = .returned v ∧ TabIn (tab seed 256) v w' ∧ Below w.heap.size w w' :=
  (rtable_any seed w h0 h1).mono fun e w' ⟨v, he, hv, hb⟩ => ⟨v, he, tabIn_of hv, hb⟩
theorem t_hash {L : List Int} {v : Value} {w : World} (s : ByteArray) (hs : s.size ≤ 140737488355328) (h : TabIn L v w) :
    Calls Tryd.prog 35 #[v, .string s] w fun e w' => e = .returned (.tuple #[.int .u64 (hashI L s), .int .i64 0]) ∧ w = w' := by
  obtain ⟨g, cap, rfl, _, hc⟩ := h
  exact hash_any L s g 0 cap w hs (fun j hj => by rw [Nat.zero_add]; exact hc j hj)
theorem t_rhash {L : List Int} {v : Value} {w : World} (s : ByteArray) (hs : s.size ≤ 140737488355328) (h : TabIn L v w) :
    Calls Tryd.prog 40 #[v, .string s] w fun e w' => e = .returned (.tuple #[.int .u64 (hashI L s), .int .i64 0]) ∧ w = w' := by
  obtain ⟨g, cap, rfl, _, hc⟩ := h
  exact rhash_any L s g 0 cap w hs (fun j hj => by rw [Nat.zero_add]; exact hc j hj)
theorem tab_getD (seed : Int) (j : Nat) : 0 ≤ (tab seed 256).getD j 0 ∧ (tab seed 256).getD j 0 ≤ 18446744073709551615 := by
  by_cases h : j < 256
  · have := tabI_bd seed j
    simpa [List.getD, tab_get seed 256 j h] using this
  · have : (tab seed 256).getD j 0 = 0 := by simp [List.getD, List.getElem?_eq_none (show (tab seed 256).length ≤ j by rw [tab_len]; omega)]
    omega
theorem hashI_bd (seed : Int) (s : ByteArray) : 0 ≤ hashI (tab seed 256) s ∧ hashI (tab seed 256) s ≤ 18446744073709551615 := by
  unfold hashI
  have h : ∀ k, 0 ≤ hup (tab seed 256) s k ∧ hup (tab seed 256) s k ≤ 18446744073709551615 := by
    intro k
    cases k with
    | zero => exact tab_getD seed _
    | succ k => exact wrap_bd _
  exact mixI_bd _ (h _).1 (h _).2
end Go.Proofs.YtgnopnifdiipkaaDoor
