/- The reference's ValidatePins, Covers, Total, SamePins. -/
import Derived.Test.YtpehbfghajlgmaaPnL
import Derived.Test.YtpehbfghajlgmaaRefSat
import Derived.Test.YtpehbfghajlgmaaStepApp
import Derived.RegionTactic
import Derived.Deep.QuietTactic
import Derived.BigQuiet
import Derived.StillTailTactics
namespace Go.Proofs.Ytpehbfghajlgmaa
open Go.RowKit
set_option linter.unusedVariables false
set_option linter.unusedSimpArgs false
/-- A pin of a row that can be read. -/
theorem RdPn.at_ {L : List Pn} {n cap : Nat} {a : Option Addr} {w : World} (h : RdPn L (.slice a n cap) w) {j : Nat} (hj : j < L.length) :
    ∃ b off, a = some ⟨b, off, none⟩ ∧ b < w.heap.size ∧ w.cell? ⟨b, off + j * 2, none⟩ = some (.int .i64 (L.getD j Pn.z).m) ∧ w.cell? ⟨b, off + j * 2 + 1, none⟩ = some (.int .i64 (L.getD j Pn.z).n) := by
  obtain ⟨-, a', cap', he, -, -, hcell⟩ := h
  simp only [Value.slice.injEq] at he
  obtain ⟨rfl, -, rfl⟩ := he
  obtain ⟨b, off, rfl, hbl, hc⟩ := hcell (by omega)
  obtain ⟨c0, c1⟩ := hc j hj
  exact ⟨b, off, rfl, hbl, c0, c1⟩
theorem totF_snoc (a : Int) : ∀ (L : List Pn) (p : Pn), totF a (L ++ [p]) = satN (totF a L + nat0 p.n) 1099511627776
  | [], p => rfl
  | q :: L, p => by
    show totF _ (L ++ [p]) = _
    rw [totF_snoc _ L p]
    rfl
theorem totF_bd : ∀ (L : List Pn) {a : Int}, 0 ≤ a → a ≤ 1099511627776 → 0 ≤ totF a L ∧ totF a L ≤ 1099511627776
  | [], a, h0, h1 => ⟨h0, h1⟩
  | p :: L, a, h0, h1 => by
    have : 0 ≤ nat0 p.n := by unfold nat0; omega
    exact totF_bd L (by unfold satN; split <;> omega) (by unfold satN; split <;> omega)
theorem pn_take {L : List Pn} {j : Nat} (h : j < L.length) : L.take (j + 1) = L.take j ++ [L.getD j Pn.z] := by
  rw [List.take_succ_eq_append_getElem h]
  simp [List.getD, h]
end Go.Proofs.Ytpehbfghajlgmaa
