/- slices.Clone at ints and at versions. -/
import Derived.Test.YtakickggpfbafaaVmK
import Derived.Lib.SliceRun
namespace Go.Proofs.Ytakickggpfbafaa
open Go.RowKit
set_option linter.unusedVariables false
set_option linter.unusedSimpArgs false
theorem OwnI.newNil (w : World) : OwnI w.heap.size [] (.slice (some ⟨w.heap.size, 0, none⟩) 0 0) (w.alloc (.cells #[] 3)) := ⟨Rng.nil, World.ownsRow_made w #[] 0 (Nat.le_refl _) (Nat.zero_le _) rfl⟩
set_option maxRecDepth 100000 in
theorem cloneI_any (L : List Int) (v : Value) (w : World) (h : RdI L v w) (hn : L.length ≤ 1000000) :
    Calls Try.prog 33 #[v] w fun e w' => ∃ v, e = .returned v ∧ OwnI w.heap.size L v w' ∧ Below w.heap.size w w' := by
  obtain ⟨a, cap, rfl⟩ := h.shape
  have HR := Lib.hid h
  cases a with
  | none =>
    obtain ⟨hy, a, cap', he, h1, h2, h3⟩ := h
    have hl : L = [] := by
      apply List.eq_nil_of_length_eq_zero
      cases Nat.eq_zero_or_pos L.length with
      | inl h => exact h
      | inr h => obtain ⟨b, off, hb, _⟩ := h3 h; subst hb; cases he
    subst hl
    clear he h3 hy h1 h2
    have hq := fun w => Go.Lib.run_eql_slice_nil w 23 3 none 0 cap 0 0 Try.underlying23
    simp only [List.length_nil]
    go_enter Try.func33, Try.ntmps33
    go_wp2
    go_ret
    exact ⟨_, rfl, OwnI.empty _ _, Below.refl _ _⟩
  | some ad =>
    have HS := Lib.hid (RdI.below h (b1 (.cells #[] 3))).src
    have HO := Lib.hid (OwnI.newNil w)
    clear h
    have hq := fun w => Go.Lib.run_eql_slice_nil w 23 3 (some ad) L.length cap 0 0 Try.underlying23
    go_enter Try.func33, Try.ntmps33
    go_wp2_with (at_builtin; refine wp_appI rfl _ _ _ rfl w.heap.size [] L _ _ rfl rfl HO.out HS.out ?c1 ?c2 ?_)
    case c1 => simp
    case c2 => simp; omega
    intro v' w' ho hb
    have HO' := Lib.hid ho
    have HB' := Lib.hid hb
    clear ho hb
    go_wp2
    go_ret
    exact ⟨_, rfl, HO'.out, (b1 _).trans HB'.out⟩
set_option maxRecDepth 100000 in
theorem cloneVs_any (L : List Vs) (v : Value) (w : World) (h : RdVs L v w) (hn : L.length ≤ 1000000) :
    Calls Try.prog 34 #[v] w fun e w' => ∃ v, e = .returned v ∧ OwnVs w.heap.size L v w' ∧ Below w.heap.size w w' := by
  obtain ⟨a, cap, rfl⟩ := h.shape
  have HR := Lib.hid h
  cases a with
  | none =>
    obtain ⟨hy, a, cap', he, h1, h2, h3⟩ := h
    have hl : L = [] := by
      apply List.eq_nil_of_length_eq_zero
      cases Nat.eq_zero_or_pos L.length with
      | inl h => exact h
      | inr h => obtain ⟨b, off, hb, _⟩ := h3 h; subst hb; cases he
    subst hl
    clear he h3 hy h1 h2
    have hq := fun w => Go.Lib.run_eql_slice_nil w 22 33 none 0 cap 0 0 Try.underlying22
    simp only [List.length_nil]
    go_enter Try.func34, Try.ntmps34
    go_wp2
    go_ret
    exact ⟨_, rfl, OwnVs.empty _ _, Below.refl _ _⟩
  | some ad =>
    have HS := Lib.hid (RdVs.below h (b1 (.cells #[] 33))).src
    have HO := Lib.hid (OwnVs.newNil w)
    clear h
    have hq := fun w => Go.Lib.run_eql_slice_nil w 22 33 (some ad) L.length cap 0 0 Try.underlying22
    go_enter Try.func34, Try.ntmps34
    go_wp2_with (at_builtin; refine wp_appVs rfl _ _ _ rfl w.heap.size [] L _ _ rfl rfl HO.out HS.out ?c1 ?c2 ?_)
    case c1 => simp
    case c2 => simp; omega
    intro v' w' ho hb
    have HO' := Lib.hid ho
    have HB' := Lib.hid hb
    clear ho hb
    go_wp2
    go_ret
    exact ⟨_, rfl, HO'.out, (b1 _).trans HB'.out⟩
end Go.Proofs.Ytakickggpfbafaa
