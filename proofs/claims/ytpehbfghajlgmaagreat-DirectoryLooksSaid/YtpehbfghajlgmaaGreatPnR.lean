/- The reference's ValidatePins, Covers, Total, SamePins. -/
import Derived.Test.YtpehbfghajlgmaaGreatPnL
import Derived.Test.YtpehbfghajlgmaaGreatRefSat
import Derived.Test.YtpehbfghajlgmaaGreatStepApp
import Derived.RegionTactic
import Derived.Deep.QuietTactic
import Derived.BigQuiet
import Derived.StillTailTactics
namespace Go.Proofs.YtpehbfghajlgmaaGreat
open Go.RowKit
set_option linter.unusedVariables false
set_option linter.unusedSimpArgs false
/-- A pin of a row that can be read. -/
theorem RdPn.at_ {L : List Pn} {n cap : Nat} {a : Option Addr} {w : World} (h : RdPn L (.slice a n cap) w) {j : Nat} (hj : j < L.length) :
    ∃ b off, a = some ⟨b, off, none⟩ ∧ b < w.heap.size ∧ w.cell? ⟨b, off + j * 2, none⟩ = some (.int .i64 (L.getD j Pn.z).m) ∧ w.cell? ⟨b, off + j * 2 + 1, none⟩ = some (.int .i64 (L.getD j Pn.z).n) := by
  obtain ⟨-, a', cap', he, -, -, hcell⟩ := h
  simp only [Value.slice.injEq] at he
  obtain ⟨rfl, -, rfl⟩ := he
  obtain ⟨b, off, rfl, hbl, hc⟩ := hcell (by omega)
  obtain ⟨c0, c1⟩ := hc j hj
  exact ⟨b, off, rfl, hbl, c0, c1⟩
set_option maxRecDepth 100000 in
set_option maxHeartbeats 1000000 in
theorem rcovp_any (L : List Pn) (v : Value) (f t : Int) (w : World) (hv : RdPn L v w) (hL : L.length ≤ 1000000000000) :
    Calls Tryz.prog 44 #[v, .int .i64 f, .int .i64 t] w fun e w' => e = .returned (.bool (covP f t L)) ∧ w = w' := by
  obtain ⟨a, cap, rfl⟩ := hv.shape
  have HV := Lib.hid hv
  clear hv
  go_enter Tryz.func44, Tryz.ntmps44
  go_wp2
  go_loopw [7] (fun i wr => ∃ q : Nat, q ≤ L.length ∧ i = .int .i64 (q : Int) ∧ Hid (∀ x, x < q → conP f t (L.getD x Pn.z).m = false) ∧ wr = w) (fun i _ => L.length - (intOf i).toNat)
  case atStart => exact ⟨0, by omega, rfl, Lib.hid (fun x hx => by omega), rfl⟩
  case round =>
    obtain ⟨q, hq, rfl, HN, rfl⟩ := hrel
    by_cases hlt : q < L.length
    · have hqi : (q : Int) < (L.length : Int) := by omega
      obtain ⟨b, off, rfl, hbl, c0, c1⟩ := HV.out.at_ hlt
      have HIT : Hid (conP f t (L.getD q Pn.z).m = true → covP f t L = true) := Lib.hid (fun h => List.any_eq_true.2 ⟨L.getD q Pn.z, by simp [List.getD, hlt], h⟩)
      have HNX : Hid (conP f t (L.getD q Pn.z).m = false → ∀ x, x < q + 1 → conP f t (L.getD x Pn.z).m = false) := Lib.hid (fun h x hx => by
        rcases Nat.lt_or_ge x q with h' | h'
        · exact HN.out x h'
        · obtain rfl : x = q := by omega
          exact h)
      have hcn : conP f t (L.getD q Pn.z).m = (decide (f ≤ (L.getD q Pn.z).m) && (decide ((L.getD q Pn.z).m < t) || decide (t = 0))) := rfl
      generalize (L.getD q Pn.z).m = m at *
      generalize conP f t m = r at *
      by_cases h1 : f ≤ m
      · by_cases h2 : m < t
        · have hr : r = true := by rw [hcn]; simp [h1, h2]
          have HF := Lib.hid (HIT.out hr)
          clear hr hcn
          go_wp2
          go_ret
          exact ⟨by rw [HF.out]; rfl, rfl⟩
        · by_cases h3 : t = 0
          · have hr : r = true := by rw [hcn]; simp [h1, h3]
            have HF := Lib.hid (HIT.out hr)
            clear hr hcn
            subst h3
            go_wp2
            go_ret
            exact ⟨by rw [HF.out]; rfl, rfl⟩
          · have hr : r = false := by rw [hcn]; simp [h2, h3]
            have HF := Lib.hid (HNX.out hr)
            clear hr hcn
            go_wp2
            go_roundw
            case rel => exact ⟨q + 1, by omega, by go_num, HF, by first | rfl | trivial⟩
            case measure => simp [intOf]; omega
      · have hr : r = false := by rw [hcn]; simp [h1]
        have HF := Lib.hid (HNX.out hr)
        clear hr hcn
        go_wp2
        go_roundw
        case rel => exact ⟨q + 1, by omega, by go_num, HF, by first | rfl | trivial⟩
        case measure => simp [intOf]; omega
    · obtain rfl : q = L.length := by omega
      have HF := Lib.hid (show covP f t L = false by
        unfold covP
        rw [List.any_eq_false]
        intro p hp
        obtain ⟨x, hx, rfl⟩ := List.mem_iff_getElem.1 hp
        have := HN.out x hx
        simpa [List.getD, hx] using this)
      go_wp2
      go_ret
      exact ⟨by rw [HF.out]; rfl, rfl⟩
theorem totF_snoc (a : Int) : ∀ (L : List Pn) (p : Pn), totF a (L ++ [p]) = satN (totF a L + nat0 p.n) 1099511627776
  | [], p => rfl
  | q :: L, p => by
    show totF _ (L ++ [p]) = _
    rw [totF_snoc _ L p]
    rfl
theorem totF_bd : ∀ (L : List Pn) {a : Int}, 0 ≤ a → a ≤ 1099511627776 → 0 ≤ totF a L ∧ totF a L ≤ 1099511627776
  | [], a, h0, h1 => ⟨h0, h1⟩
  | p :: L, a, h0, h1 => by
    have : 0 ≤ nat0 p.n := by unfold nat0; omega
    exact totF_bd L (by unfold satN; split <;> omega) (by unfold satN; split <;> omega)
theorem pn_take {L : List Pn} {j : Nat} (h : j < L.length) : L.take (j + 1) = L.take j ++ [L.getD j Pn.z] := by
  rw [List.take_succ_eq_append_getElem h]
  simp [List.getD, h]
end Go.Proofs.YtpehbfghajlgmaaGreat
