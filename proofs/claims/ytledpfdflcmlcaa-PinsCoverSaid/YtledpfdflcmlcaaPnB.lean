/- The reference's AddPin, with its errors. -/
import Derived.Test.YtledpfdflcmlcaaPnA
namespace Go.Proofs.Ytledpfdflcmlcaa
open Go.RowKit
set_option linter.unusedVariables false
set_option linter.unusedSimpArgs false
set_option maxRecDepth 100000 in
set_option maxHeartbeats 2000000 in
theorem radd_full (L : List Pn) (v : Value) (c : Int) (w : World) (hv : RdPn L v w) (hL : L.length ≤ 1000000) (hc : 0 ≤ c ∧ c ≤ 9223372036854775807) (hz : valN L = 0) (hf : fullP L c = true) :
    Calls Try.prog 9 #[v, .int .i64 c] w fun e w' => ∃ u, e = .returned (.tuple #[u, .int .i64 14]) ∧ OwnPn w.heap.size [] u w' ∧ Below w.heap.size w w' := by
  obtain ⟨a, cap, rfl⟩ := hv.shape
  have HV := Lib.hid hv
  have hval := rvalp_any L _ w hv (by omega)
  clear hv
  rw [hz] at hval
  have HEX : Hid (∃ q, q < L.length ∧ (L.getD q Pn.z).m = c ∧ (L.getD q Pn.z).n = 1024) := Lib.hid (by
    unfold fullP at hf
    obtain ⟨p, hp, hx⟩ := List.any_eq_true.1 hf
    obtain ⟨q, hq, rfl⟩ := List.mem_iff_getElem.1 hp
    simp only [Bool.and_eq_true, beq_iff_eq] at hx
    exact ⟨q, hq, by simpa [List.getD, hq] using hx⟩)
  clear hz hf
  have hc0 := hc.1
  go_enter Try.func9, Try.ntmps9
  go_wp2_with (go_at_call 13; refine hval.mono ?_; rintro e w1 ⟨rfl, hb1⟩; have B1 := Lib.hid hb1; clear hb1 hval)
  go_loopw [7] (fun i wr => ∃ q : Nat, q ≤ L.length ∧ i = .int .i64 (q : Int) ∧ Hid (Below w.heap.size w wr) ∧ Hid (∀ x, x < q → ¬ ((L.getD x Pn.z).m = c ∧ (L.getD x Pn.z).n = 1024))) (fun i _ => L.length - (intOf i).toNat)
  case atStart => exact ⟨0, by omega, rfl, B1, Lib.hid (fun x hx => by omega)⟩
  case round =>
    clear B1
    obtain ⟨q, hq, rfl, HB, HN⟩ := hrel
    by_cases hlt : q < L.length
    · have hqi : (q : Int) < (L.length : Int) := by omega
      obtain ⟨b, off, rfl, hbl, c0, c1⟩ := (HV.out.below HB.out).at_ hlt
      have HNX : Hid (¬ ((L.getD q Pn.z).m = c ∧ (L.getD q Pn.z).n = 1024) → ∀ x, x < q + 1 → ¬ ((L.getD x Pn.z).m = c ∧ (L.getD x Pn.z).n = 1024)) := Lib.hid (fun h x hx => by
        rcases Nat.lt_or_ge x q with h' | h'
        · exact HN.out x h'
        · obtain rfl : x = q := by omega
          exact h)
      obtain ⟨m, hm⟩ : ∃ m, (L.getD q Pn.z).m = m := ⟨_, rfl⟩
      obtain ⟨n, hn⟩ : ∃ n, (L.getD q Pn.z).n = n := ⟨_, rfl⟩
      rw [hm] at c0
      rw [hn] at c1
      rw [hm, hn] at HNX
      clear hm hn
      by_cases hm : m = c
      · subst hm
        by_cases hn : n = 1024
        · subst hn
          go_wp2
          go_ret2
          exact ⟨_, rfl, OwnPn.empty _ _, HB.out⟩
        · have HNX2 := Lib.hid (HNX.out (fun h => hn h.2))
          clear HNX HN
          go_wp2
          go_roundw
          case rel => exact ⟨q + 1, by omega, by go_num, HB, HNX2⟩
          case measure => simp [intOf]; omega
      · have HNX2 := Lib.hid (HNX.out (fun h => hm h.1))
        clear HNX HN
        go_wp2
        go_roundw
        case rel => exact ⟨q + 1, by omega, by go_num, HB, HNX2⟩
        case measure => simp [intOf]; omega
    · obtain ⟨x, h1, h2⟩ := HEX.out
      exact absurd h2 (HN.out x (by omega))
set_option maxRecDepth 100000 in
set_option maxHeartbeats 2000000 in
theorem radd_bad (L : List Pn) (v : Value) (c z : Int) (w : World) (hv : RdPn L v w) (hL : L.length ≤ 1000000) (hz : valN L = z) (h0 : z ≠ 0) :
    Calls Try.prog 9 #[v, .int .i64 c] w fun e w' => ∃ u, e = .returned (.tuple #[u, .int .i64 z]) ∧ OwnPn w.heap.size [] u w' ∧ Below w.heap.size w w' := by
  have hval := rvalp_any L _ w hv (by omega)
  obtain ⟨a, cap, rfl⟩ := hv.shape
  clear hv
  rw [hz] at hval
  clear hz
  go_enter Try.func9, Try.ntmps9
  go_wp2_with (go_at_call 13; refine hval.mono ?_; rintro e w1 ⟨rfl, hb1⟩; have B1 := Lib.hid hb1; clear hb1 hval)
  go_ret2
  exact ⟨_, rfl, OwnPn.empty _ _, B1.out⟩
set_option maxRecDepth 100000 in
set_option maxHeartbeats 2000000 in
theorem radd_neg (L : List Pn) (v : Value) (c : Int) (w : World) (hv : RdPn L v w) (hL : L.length ≤ 1000000) (hz : valN L = 0) (hc : c < 0) :
    Calls Try.prog 9 #[v, .int .i64 c] w fun e w' => ∃ u, e = .returned (.tuple #[u, .int .i64 5]) ∧ OwnPn w.heap.size [] u w' ∧ Below w.heap.size w w' := by
  have hval := rvalp_any L _ w hv (by omega)
  obtain ⟨a, cap, rfl⟩ := hv.shape
  clear hv
  rw [hz] at hval
  clear hz
  go_enter Try.func9, Try.ntmps9
  go_wp2_with (go_at_call 13; refine hval.mono ?_; rintro e w1 ⟨rfl, hb1⟩; have B1 := Lib.hid hb1; clear hb1 hval)
  go_ret2
  exact ⟨_, rfl, OwnPn.empty _ _, B1.out⟩
theorem radd_any (L : List Pn) (v : Value) (c : Int) (w : World) (hv : RdPn L v w) (hL : L.length ≤ 1000000) (hc : c ≤ 9223372036854775807) :
    Calls Try.prog 9 #[v, .int .i64 c] w fun e w' => ∃ u, e = .returned (.tuple #[u, .int .i64 (addE L c)]) ∧ OwnPn w.heap.size (addV L c) u w' ∧ Below w.heap.size w w' := by
  by_cases hz : valN L = 0
  · by_cases h0 : c < 0
    · have e : addE L c = 5 := by unfold addE; rw [if_neg (fun h => h hz), if_pos h0]
      have e2 : addV L c = [] := by unfold addV; rw [e, if_neg (by decide)]
      rw [e, e2]
      exact radd_neg L v c w hv hL hz h0
    · cases hf : fullP L c with
      | true =>
        have e : addE L c = 14 := by unfold addE; rw [if_neg (fun h => h hz), if_neg h0, if_pos hf]
        have e2 : addV L c = [] := by unfold addV; rw [e, if_neg (by decide)]
        rw [e, e2]
        exact radd_full L v c w hv hL ⟨by omega, hc⟩ hz hf
      | false =>
        have e : addE L c = 0 := by unfold addE; rw [if_neg (fun h => h hz), if_neg h0, hf]; rfl
        have e2 : addV L c = addP c L := by unfold addV; rw [e, if_pos rfl]
        rw [e, e2]
        exact radd_ok L v c w hv hL ⟨by omega, hc⟩ hz hf
  · have e : addE L c = valN L := by unfold addE; rw [if_pos hz]
    have e2 : addV L c = [] := by unfold addV; rw [e, if_neg hz]
    rw [e, e2]
    exact radd_bad L v c _ w hv hL rfl hz
end Go.Proofs.Ytledpfdflcmlcaa
