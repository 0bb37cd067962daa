/- The contracts of New of both, and of the reference's SameEntries and SameTop at equal lists. -/
import Derived.Test.YtcmekpdgikploaaInsN
namespace Go.Proofs.Ytcmekpdgikploaa
open Go.RowKit
set_option linter.unusedVariables false
set_option linter.unusedSimpArgs false
def newT (S : Int) : TP := if S < 1 ∨ 32 < S then TP.none else ⟨S, 0, [], false⟩
def newTE (S : Int) : Int := if S < 1 ∨ 32 < S then 5 else 0
set_option maxRecDepth 100000 in
theorem pnew_any (S : Int) (w : World) (S0 : -9223372036854775808 ≤ S) (S1 : S ≤ 9223372036854775807) :
    Calls Try.prog 14 #[.int .i64 S] w fun e w' => ∃ v, e = .returned (.tuple #[v, .int .i64 (newTE S)]) ∧ OwnT w.heap.size (newT S) v w' ∧ Below w.heap.size w w' := by
  have hz := fun w => isz_any S w S0 S1
  unfold newT newTE
  by_cases hs : S < 1 ∨ 32 < S
  · rw [show (decide (1 ≤ S) && decide (S ≤ 32)) = false by rw [Bool.and_eq_false_iff]; simp; omega] at hz
    rw [if_pos hs, if_pos hs]
    clear hs
    go_enter Try.func14, Try.ntmps14
    go_wp2_with (go_at_call 41; refine (hz _).mono ?_; rintro e w' ⟨rfl, rfl⟩)
    refine bodyPost_ret (v := .tuple #[.agg #[.int .i64 0, .int .i64 0, .slice none 0 0, .bool false], .int .i64 5]) (by simp [results, Try.results14, go_sem, *]) rfl ⟨_, rfl, ⟨none, 0, 0, rfl, OwnE.empty _ _⟩, b1 _⟩
  · rw [show (decide (1 ≤ S) && decide (S ≤ 32)) = true by simp; omega] at hz
    rw [if_neg hs, if_neg hs]
    clear hs
    go_enter Try.func14, Try.ntmps14
    go_wp2_with (go_at_call 41; refine (hz _).mono ?_; rintro e w' ⟨rfl, rfl⟩)
    refine bodyPost_ret (v := .tuple #[.agg #[.int .i64 S, .int .i64 0, .slice none 0 0, .bool false], .int .i64 0]) (by simp [results, Try.results14, go_sem, *]) rfl ⟨_, rfl, ⟨none, 0, 0, rfl, OwnE.empty _ _⟩, b1 _⟩
set_option maxRecDepth 100000 in
theorem rnew_any (S : Int) (w : World) (S0 : -9223372036854775808 ≤ S) (S1 : S ≤ 9223372036854775807) :
    Calls Try.prog 15 #[.int .i64 S] w fun e w' => ∃ v, e = .returned (.tuple #[v, .int .i64 (newTE S)]) ∧ OwnT w.heap.size (newT S) v w' ∧ Below w.heap.size w w' := by
  have hz := fun w => within_any S 1 32 w
  unfold newT newTE
  by_cases hs : S < 1 ∨ 32 < S
  · rw [show (decide (1 ≤ S) && decide (S ≤ 32)) = false by rw [Bool.and_eq_false_iff]; simp; omega] at hz
    rw [if_pos hs, if_pos hs]
    clear hs
    go_enter Try.func15, Try.ntmps15
    go_wp2_with (go_at_call 42; refine (hz _).mono ?_; rintro e w' ⟨rfl, rfl⟩)
    refine bodyPost_ret (v := .tuple #[.agg #[.int .i64 0, .int .i64 0, .slice none 0 0, .bool false], .int .i64 5]) (by simp [results, Try.results15, go_sem, *]) rfl ⟨_, rfl, ⟨none, 0, 0, rfl, OwnE.empty _ _⟩, b1 _⟩
  · rw [show (decide (1 ≤ S) && decide (S ≤ 32)) = true by simp; omega] at hz
    rw [if_neg hs, if_neg hs]
    clear hs
    go_enter Try.func15, Try.ntmps15
    go_wp2_with (go_at_call 42; refine (hz _).mono ?_; rintro e w' ⟨rfl, rfl⟩)
    refine bodyPost_ret (v := .tuple #[.agg #[.int .i64 S, .int .i64 0, .slice none 0 0, .bool false], .int .i64 0]) (by simp [results, Try.results15, go_sem, *]) rfl ⟨_, rfl, ⟨none, 0, 0, rfl, OwnE.empty _ _⟩, b1 _⟩
set_option maxRecDepth 100000 in
set_option maxHeartbeats 1000000 in
theorem sameE_any (L : List Ent) (v u : Value) (w : World) (hv : RdE L v w) (hu : RdE L u w) (hn : L.length ≤ 549755813888) :
    Calls Try.prog 43 #[v, u] w fun e w' => e = .returned (.bool true) ∧ Below w.heap.size w w' := by
  obtain ⟨a, cap, rfl⟩ := hv.shape
  obtain ⟨a2, cap2, rfl⟩ := hu.shape
  have HR := Lib.hid hv
  have HU := Lib.hid hu
  clear hv hu
  go_enter Try.func43, Try.ntmps43
  go_wp2
  go_loopw [5] (fun i wr => ∃ j : Nat, j ≤ L.length ∧ i = .int .i64 (j : Int) ∧ Hid (Below w.heap.size w wr)) (fun i _ => L.length - (intOf i).toNat)
  case atStart => exact ⟨0, by omega, rfl, Lib.hid (Below.refl _ _)⟩
  case round =>
    obtain ⟨j, hj, rfl, HI⟩ := hrel
    by_cases hlt : j < L.length
    · have hlt2 : (j : Int) < (L.length : Int) := by omega
      obtain ⟨-, a1, cap1, he1, -, -, hc1⟩ := HR.out.below HI.out
      simp only [Value.slice.injEq, true_and] at he1
      obtain ⟨rfl, rfl⟩ := he1
      obtain ⟨b, off, rfl, hb, hcell⟩ := hc1 (by omega)
      obtain ⟨c0, c1, c2⟩ := hcell j hlt
      obtain ⟨-, a3, cap3, he3, -, -, hc3⟩ := HU.out.below HI.out
      simp only [Value.slice.injEq, true_and] at he3
      obtain ⟨rfl, rfl⟩ := he3
      obtain ⟨b3, off3, rfl, hb3, hcell3⟩ := hc3 (by omega)
      obtain ⟨d0, d1, d2⟩ := hcell3 j hlt
      clear hc1 hcell hc3 hcell3
      generalize L.getD j Ent.z = X at *
      go_wp2
      go_quiet (fail)
      go_wp2
      exact ⟨⟨j + 1, by omega, by go_num, Lib.hid (below_drewN HI.out _)⟩, by simp [intOf]; omega⟩
    · obtain rfl : j = L.length := by omega
      go_wp2
      go_ret
      exact ⟨rfl, HI.out⟩
set_option maxRecDepth 100000 in
theorem sameT_any (t : TP) (v u : Value) (w : World) (hv : RdT t v w) (hu : RdT t u w) (hn : t.L.length ≤ 549755813888) :
    Calls Try.prog 16 #[v, u] w fun e w' => e = .returned (.bool true) ∧ Below w.heap.size w w' := by
  obtain ⟨S, T, L, s⟩ := t
  obtain ⟨a, n, cap, rfl, hR⟩ := hv
  obtain ⟨a2, n2, cap2, rfl, hR2⟩ := hu
  dsimp only at hR hR2 hn ⊢
  have hs := Lib.hid (sameE_any L (.slice a n cap) (.slice a2 n2 cap2) ((w.alloc (.cells #[.int .i64 S, .int .i64 T, .slice a n cap, .bool s] 25)).alloc (.cells #[.int .i64 S, .int .i64 T, .slice a2 n2 cap2, .bool s] 25)) (hR.below (b2 _ _)) (hR2.below (b2 _ _)) hn)
  clear hR hR2
  go_enter Try.func16, Try.ntmps16
  go_wp2_with (go_at_call 43; refine hs.out.mono ?_; rintro e w2 ⟨rfl, hb2⟩; have B2 := Lib.hid (bgo (b2 _ _) hb2); clear hb2)
  go_ret
  exact ⟨rfl, B2.out⟩
end Go.Proofs.Ytcmekpdgikploaa
